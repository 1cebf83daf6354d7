/-
  Words and contracts, joined: LcBack LcRow LcLeft LcCut LcColl LcTable LcRows LcPairs LcPairsAll.
-/
import Derived.Test.YtjhjmfodpnipiaaRows
import Derived.Test.YtjhjmfodpnipiaaGQ
import Derived.Test.YtjhjmfodpnipiaaQRange
import Derived.RangeFuncBound
import Derived.Shelf.Abstract
import Derived.Shelf.RegionOpen
import Derived.WalkKit
import Derived.OwnWalkIn
import Derived.TacticsInMore
import Derived.LoopNIn
import Derived.LoopIn
import Derived.Maps.AppendAt
import Derived.WalkSpells
import Derived.WalkLawsBesides
import Derived.Lib.Hide
import Derived.Test.YtjhjmfodpnipiaaGP
import Derived.Deep.QuietTactic
import Derived.BigQuiet
import Derived.StillTailTactics
import Derived.IntWalk
import Derived.Outline
set_option maxRecDepth 100000
namespace Go.Proofs.Ytjhjmfodpnipiaa
open Go.RowKit Go.Shelf
set_option linter.unusedVariables false
namespace Lc
open Tx Rg
attribute [local go_sem] Oper.semAt_some

/-- The items of a list from the last one on, with their places. -/
def bk {α : Type} (vs : List α) : List (Nat × α) := (vs.zipIdx.map fun p => (p.2, p.1)).reverse
theorem bk_nil {α : Type} : bk ([] : List α) = [] := rfl
theorem bk_snoc {α : Type} (vs : List α) (v : α) : bk (vs ++ [v]) = (vs.length, v) :: bk vs := by
  simp [bk, List.zipIdx_append]
theorem bk_take {α : Type} {vs : List α} {k : Nat} (h : k < vs.length) : bk (vs.take (k + 1)) = (k, vs[k]) :: bk (vs.take k) := by
  rw [take_snoc' h, bk_snoc]; simp; omega
theorem bk_map {α β : Type} (f : α → β) (vs : List α) : bk (vs.map f) = (bk vs).map fun p => (p.1, f p.2) := by
  simp [bk, List.zipIdx_map, List.map_reverse]
theorem bk_length {α : Type} (vs : List α) : (bk vs).length = vs.length := by simp [bk]
/-- Which item it is, is told by how many have come. -/
theorem bk_split {α : Type} {vs : List α} {pre post : List (Nat × α)} {x : Nat × α} (h : bk vs = pre ++ x :: post) : ∃ hk : x.1 < vs.length, vs[x.1] = x.2 ∧ pre.length + x.1 + 1 = vs.length := by
  have hl : (bk vs).length = pre.length + (post.length + 1) := by rw [h]; simp
  rw [bk_length] at hl
  have hx : (bk vs)[pre.length]? = some x := by rw [h]; simp
  unfold bk at hx
  rw [List.getElem?_reverse (by simp; omega)] at hx
  simp only [List.length_map, List.length_zipIdx, List.getElem?_map, List.getElem?_zipIdx, Nat.zero_add] at hx
  rw [List.getElem?_eq_getElem (by omega)] at hx
  simp at hx
  subst hx
  exact ⟨by simp; omega, rfl, by simp; omega⟩

/-- What a round must keep: what lies below n₁, and the box in which the slice lies. -/
def KpB (n₁ Bs : Nat) (t : TypeId) (W W' : World) : Prop := Below n₁ W W' ∧ ∀ v, Boxed W Bs t v → Boxed W' Bs t v
theorem kpB_t {n₁ Bs : Nat} {t : TypeId} {A B C : World} (h : KpB n₁ Bs t A B) (k : KpB n₁ Bs t B C) : KpB n₁ Bs t A C := ⟨h.1.trans k.1, fun v hv => k.2 v (h.2 v hv)⟩
theorem kpB_r {n₁ Bs : Nat} {t : TypeId} (W : World) : KpB n₁ Bs t W W := ⟨Below.refl _ _, fun _ h => h⟩
theorem kpB_b {n₁ Bs l : Nat} {t : TypeId} (hn : n₁ ≤ l) (hB : Bs ≠ l) (W : World) (o o' : Obj) (h : W.heap[l]? = some o) (_ : o.isCells = false) : KpB n₁ Bs t W (W.putObj l o') :=
  ⟨(Below.refl n₁ W).grown (grownBy_putObj' W l o') (by have := (Array.getElem?_eq_some_iff.1 h).1; omega) (fun k e => by cases e; exact hn), fun v hv => hv.kept (grownBy_putObj' W l o') (by simpa using hB)⟩

theorem backS_in (n : Nat) (A : Option Addr) (l c : Nat) (w : World) :
    CallsIn Fence.wide n Try.prog 124 #[.slice A l c] w fun e w' => e = .returned (.func (.func 126) #[] #[.pointer (some ⟨w.heap.size, 0, none⟩)]) ∧ w' = w.alloc (.cells #[.slice A l c] 33) := by
  refine callsIn_of_wp Try.func124 rfl trivial ?_ rfl
  simp only [Try.ntmps124, List.size_toArray, List.length_cons, List.length_nil, Nat.reduceAdd, Nat.reduceSub, Array.replicate_succ, Array.replicate_zero, List.push_toArray, List.append_toArray, List.nil_append, List.cons_append]
  gi_wp2
  go_ret
  exact ⟨rfl, rfl⟩

set_option maxRecDepth 100000 in
set_option maxHeartbeats 1000000 in
theorem backS1_in (n l Bs n₁ cap m : Nat) (A : Option Addr) (vs : List Value) (hm : vs.length = m) (hle : m ≤ 1000000) (J Jx : List (Nat × Value) → World → Prop)
    (hY : ∀ pre x post W1, bk vs = pre ++ x :: post → J pre W1 → YieldAt Fence.wide (n - 1) Try.prog l #[.int .i64 (x.1 : Int), x.2] W1 fun e W' =>
      (e = .returned (.bool true) ∧ J (pre ++ [x]) W' ∧ KpB n₁ Bs 33 W1 W') ∨ (e = .returned (.bool false) ∧ Jx (pre ++ [x]) W'))
    (W : World) (hBs : Boxed W Bs 33 (.slice A m cap)) (hR : Rd W n₁ A vs) (h0 : J [] W) :
    CallsIn Fence.wide n Try.prog 126 #[.func (.yield l) #[] #[], .pointer (some ⟨Bs, 0, none⟩)] W fun e W' => (∃ v, e = .returned v) ∧ (J (bk vs) W' ∨ ∃ pre post, bk vs = pre ++ post ∧ Jx pre W') := by
  have HM := Lib.hid hm; clear hm
  have hc := hBs.cell
  refine callsIn_of_wp Try.func126 rfl trivial ?_ rfl
  simp only [Try.ntmps126, List.size_toArray, List.length_cons, List.length_nil, Nat.reduceAdd, Nat.reduceSub, Array.replicate_succ, Array.replicate_zero, List.push_toArray, List.append_toArray, List.nil_append, List.cons_append]
  gi_wp2
  gi_loopw [3] (fun i wr => ∃ k pre, k ≤ m ∧ i = .int .i64 ((k : Int) - 1) ∧ bk vs = pre ++ bk (vs.take k) ∧ J pre wr ∧ Boxed wr Bs 33 (.slice A m cap) ∧ Rd wr n₁ A vs) (fun i _ => (intOf i + 1).toNat)
  case atStart => exact ⟨m, [], Nat.le_refl _, rfl, by rw [List.take_of_length_le (by rw [HM.out]; exact Nat.le_refl _)]; rfl, h0, hBs, hR⟩
  case round =>
    clear hc
    obtain ⟨k, pre, hk, rfl, hb, hJs, hBs', hR'⟩ := hrel
    have HB := Lib.hid hb; clear hb
    have hc := hBs'.cell
    cases k with
    | zero =>
      have e : (((0 : Nat) : Int) - 1) = -1 := rfl
      rw [e]; clear e
      gi_wp2
      go_end0
      exact ⟨⟨_, rfl⟩, .inl (by have := HB.out; rw [List.take_zero, bk_nil, List.append_nil] at this; rw [this]; exact hJs)⟩
    | succ k =>
      have hkl : k < vs.length := by rw [HM.out]; omega
      have e : (((k + 1 : Nat) : Int) - 1) = (k : Int) := by omega
      rw [e]; clear e
      have HB2 : Hid (bk vs = pre ++ (k, vs[k]) :: bk (vs.take k)) := Lib.hid (by rw [HB.out, bk_take hkl])
      clear HB
      obtain ⟨a, rfl, hab, hcell⟩ := hR'.at_ hkl
      generalize hx : vs[k] = x at *
      clear hx
      obtain ⟨fn, tmps, assign, body, hy, hRR⟩ := hY pre (k, x) _ wr HB2.out hJs
      dsimp only at hy
      gi_wp2
      refine ⟨(fun h => by cases h), ?_⟩
      refine hRR.mono ?_
      rintro e W3 (⟨rfl, hJ3, hk3⟩ | ⟨rfl, hJx3⟩)
      · have hc3 := (hk3.2 _ hBs').cell
        gi_wp2
        go_roundw
        case rel => exact ⟨k, pre ++ [(k, x)], by omega, rfl, by rw [HB2.out]; simp, hJ3, hk3.2 _ hBs', hR'.below hk3.1⟩
        case measure => simp [intOf]
      · gi_wp2
        refine bodyPost_ret (results_none rfl _ _ _) rfl ?_
        exact ⟨⟨_, rfl⟩, .inr ⟨pre ++ [(k, x)], bk (vs.take k), by rw [HB2.out]; simp, hJx3⟩⟩

theorem backS_gives (n Bs n₁ cap m : Nat) (A : Option Addr) (vs : List Value) (hm : vs.length = m) (hle : m ≤ 1000000) (w : World) (hBs : Boxed w Bs 33 (.slice A m cap)) (hn : n₁ ≤ w.heap.size) (hR : Rd w n₁ A vs) :
    Gives Try.prog Plain n 126 #[.pointer (some ⟨Bs, 0, none⟩)] (fun x : Nat × Value => #[.int .i64 (x.1 : Int), x.2]) (bk vs) (KpB n₁ Bs 33) w := fun J Jx W hW _ _ _ hY h0 =>
  backS1_in n _ Bs n₁ cap m A vs hm hle J Jx (fun pre x post W1 h1 h2 => yield_less (hY pre x post _ W1 h1 h2 rfl)) W ((hW.block Bs hBs.lt).trans hBs) (hR.below (hW.mono hn)) h0

theorem backP_in (n : Nat) (A : Option Addr) (l c : Nat) (w : World) :
    CallsIn Fence.wide n Try.prog 118 #[.slice A l c] w fun e w' => e = .returned (.func (.func 122) #[] #[.pointer (some ⟨w.heap.size, 0, none⟩)]) ∧ w' = w.alloc (.cells #[.slice A l c] 139) := by
  refine callsIn_of_wp Try.func118 rfl trivial ?_ rfl
  simp only [Try.ntmps118, List.size_toArray, List.length_cons, List.length_nil, Nat.reduceAdd, Nat.reduceSub, Array.replicate_succ, Array.replicate_zero, List.push_toArray, List.append_toArray, List.nil_append, List.cons_append]
  gi_wp2
  go_ret
  exact ⟨rfl, rfl⟩

set_option maxRecDepth 100000 in
set_option maxHeartbeats 1000000 in
theorem backP1_in (n l Bs n₁ cap m : Nat) (A : Option Addr) (vs : List Value) (hm : vs.length = m) (hle : m ≤ 1000000) (J Jx : List (Nat × Value) → World → Prop)
    (hY : ∀ pre x post W1, bk vs = pre ++ x :: post → J pre W1 → YieldAt Fence.wide (n - 1) Try.prog l #[.int .i64 (x.1 : Int), x.2] W1 fun e W' =>
      (e = .returned (.bool true) ∧ J (pre ++ [x]) W' ∧ KpB n₁ Bs 139 W1 W') ∨ (e = .returned (.bool false) ∧ Jx (pre ++ [x]) W'))
    (W : World) (hBs : Boxed W Bs 139 (.slice A m cap)) (hR : Rd W n₁ A vs) (h0 : J [] W) :
    CallsIn Fence.wide n Try.prog 122 #[.func (.yield l) #[] #[], .pointer (some ⟨Bs, 0, none⟩)] W fun e W' => (∃ v, e = .returned v) ∧ (J (bk vs) W' ∨ ∃ pre post, bk vs = pre ++ post ∧ Jx pre W') := by
  have HM := Lib.hid hm; clear hm
  have hc := hBs.cell
  refine callsIn_of_wp Try.func122 rfl trivial ?_ rfl
  simp only [Try.ntmps122, List.size_toArray, List.length_cons, List.length_nil, Nat.reduceAdd, Nat.reduceSub, Array.replicate_succ, Array.replicate_zero, List.push_toArray, List.append_toArray, List.nil_append, List.cons_append]
  gi_wp2
  gi_loopw [3] (fun i wr => ∃ k pre, k ≤ m ∧ i = .int .i64 ((k : Int) - 1) ∧ bk vs = pre ++ bk (vs.take k) ∧ J pre wr ∧ Boxed wr Bs 139 (.slice A m cap) ∧ Rd wr n₁ A vs) (fun i _ => (intOf i + 1).toNat)
  case atStart => exact ⟨m, [], Nat.le_refl _, rfl, by rw [List.take_of_length_le (by rw [HM.out]; exact Nat.le_refl _)]; rfl, h0, hBs, hR⟩
  case round =>
    clear hc
    obtain ⟨k, pre, hk, rfl, hb, hJs, hBs', hR'⟩ := hrel
    have HB := Lib.hid hb; clear hb
    have hc := hBs'.cell
    cases k with
    | zero =>
      have e : (((0 : Nat) : Int) - 1) = -1 := rfl
      rw [e]; clear e
      gi_wp2
      go_end0
      exact ⟨⟨_, rfl⟩, .inl (by have := HB.out; rw [List.take_zero, bk_nil, List.append_nil] at this; rw [this]; exact hJs)⟩
    | succ k =>
      have hkl : k < vs.length := by rw [HM.out]; omega
      have e : (((k + 1 : Nat) : Int) - 1) = (k : Int) := by omega
      rw [e]; clear e
      have HB2 : Hid (bk vs = pre ++ (k, vs[k]) :: bk (vs.take k)) := Lib.hid (by rw [HB.out, bk_take hkl])
      clear HB
      obtain ⟨a, rfl, hab, hcell⟩ := hR'.at_ hkl
      generalize hx : vs[k] = x at *
      clear hx
      obtain ⟨fn, tmps, assign, body, hy, hRR⟩ := hY pre (k, x) _ wr HB2.out hJs
      dsimp only at hy
      gi_wp2
      refine ⟨(fun h => by cases h), ?_⟩
      refine hRR.mono ?_
      rintro e W3 (⟨rfl, hJ3, hk3⟩ | ⟨rfl, hJx3⟩)
      · have hc3 := (hk3.2 _ hBs').cell
        gi_wp2
        go_roundw
        case rel => exact ⟨k, pre ++ [(k, x)], by omega, rfl, by rw [HB2.out]; simp, hJ3, hk3.2 _ hBs', hR'.below hk3.1⟩
        case measure => simp [intOf]
      · gi_wp2
        refine bodyPost_ret (results_none rfl _ _ _) rfl ?_
        exact ⟨⟨_, rfl⟩, .inr ⟨pre ++ [(k, x)], bk (vs.take k), by rw [HB2.out]; simp, hJx3⟩⟩

theorem backP_gives (n Bs n₁ cap m : Nat) (A : Option Addr) (vs : List Value) (hm : vs.length = m) (hle : m ≤ 1000000) (w : World) (hBs : Boxed w Bs 139 (.slice A m cap)) (hn : n₁ ≤ w.heap.size) (hR : Rd w n₁ A vs) :
    Gives Try.prog Plain n 122 #[.pointer (some ⟨Bs, 0, none⟩)] (fun x : Nat × Value => #[.int .i64 (x.1 : Int), x.2]) (bk vs) (KpB n₁ Bs 139) w := fun J Jx W hW _ _ _ hY h0 =>
  backP1_in n _ Bs n₁ cap m A vs hm hle J Jx (fun pre x post W1 h1 h2 => yield_less (hY pre x post _ W1 h1 h2 rfl)) W ((hW.block Bs hBs.lt).trans hBs) (hR.below (hW.mono hn)) h0

end Lc
end Go.Proofs.Ytjhjmfodpnipiaa

namespace Go.Proofs.Ytjhjmfodpnipiaa
open Go.RowKit Go.Shelf
set_option linter.unusedVariables false
namespace Lc
open Tx Rg
attribute [local go_sem] Oper.semAt_some

section
variable {α : Type} [DecidableEq α]
/-- The row of a list: what it has in common with the other one, from each place on. -/
def rowV (a b : List α) : List Value := (List.range (b.length + 1)).map fun j => .int .i64 ((lcs a (b.drop j) : Nat) : Int)
/-- A row on its way: from place k on it is that with one line more. -/
def mixV (x : α) (a b : List α) (k : Nat) : List Value := (List.range (b.length + 1)).map fun j => .int .i64 ((if j < k then lcs a (b.drop j) else lcs (x :: a) (b.drop j) : Nat) : Int)
theorem rowV_length (a b : List α) : (rowV a b).length = b.length + 1 := by simp [rowV]
theorem mixV_length (x : α) (a b : List α) (k : Nat) : (mixV x a b k).length = b.length + 1 := by simp [mixV]
theorem rowV_at (a b : List α) {j : Nat} (h : j ≤ b.length) : (rowV a b)[j]? = some (.int .i64 ((lcs a (b.drop j) : Nat) : Int)) := by
  rw [rowV, List.getElem?_map, List.getElem?_range (by omega)]; rfl
theorem mixV_at (x : α) (a b : List α) (k : Nat) {j : Nat} (h : j ≤ b.length) : (mixV x a b k)[j]? = some (.int .i64 ((if j < k then lcs a (b.drop j) else lcs (x :: a) (b.drop j) : Nat) : Int)) := by
  rw [mixV, List.getElem?_map, List.getElem?_range (by omega)]; rfl
theorem mixV_top (x : α) (a b : List α) : mixV x a b b.length = rowV a b := by
  unfold mixV rowV
  refine List.map_congr_left fun j hj => ?_
  have hj' : j < b.length + 1 := by simpa using hj
  by_cases h : j < b.length
  · rw [if_pos h]
  · rw [if_neg h, List.drop_of_length_le (by omega), lcs_nil_right, lcs_nil_right]
theorem mixV_zero (x : α) (a b : List α) : mixV x a b 0 = rowV (x :: a) b := by
  unfold mixV rowV
  refine List.map_congr_left fun j _ => ?_
  rw [if_neg (by omega)]
theorem mixV_set (x : α) (a b : List α) {k : Nat} (h : k < b.length) : (mixV x a b (k + 1)).set k (.int .i64 ((lcs (x :: a) (b.drop k) : Nat) : Int)) = mixV x a b k := by
  refine List.ext_getElem? fun j => ?_
  rw [List.getElem?_set]
  by_cases hj : j ≤ b.length
  · rw [mixV_at _ _ _ _ hj, mixV_at _ _ _ _ hj]
    by_cases e : k = j
    · subst e; rw [if_pos rfl, if_pos (by rw [mixV_length]; omega), if_neg (by omega)]
    · rw [if_neg e]
      by_cases hlt : j < k
      · rw [if_pos hlt, if_pos (by omega)]
      · rw [if_neg hlt, if_neg (by omega)]
  · rw [if_neg (by omega), List.getElem?_eq_none (by rw [mixV_length]; omega), List.getElem?_eq_none (by rw [mixV_length]; omega)]
theorem lcs_step_same {x : α} (a : List α) {b : List α} {k : Nat} (h : k < b.length) (e : x = b[k]) : lcs (x :: a) (b.drop k) = lcs a (b.drop (k + 1)) + 1 := by
  rw [List.drop_eq_getElem_cons h, ← e, lcs_same]
theorem lcs_step_ne {x : α} (a : List α) {b : List α} {k : Nat} (h : k < b.length) (e : x ≠ b[k]) : lcs (x :: a) (b.drop k) = max (lcs a (b.drop k)) (lcs (x :: a) (b.drop (k + 1))) := by
  rw [List.drop_eq_getElem_cons h, lcs_ne _ _ e]
  split <;> omega
theorem lcs_len (a b : List α) (j : Nat) : lcs a (b.drop j) ≤ b.length := by
  have := (lcs_le a (b.drop j)).2; simp at this; omega
end

/-- How stepBack ends: the row is that with one line more; no other block of old is written. -/
def StepEnd (w : World) (n₁ g cap m : Nat) (x : List UInt8) (zs bs : List (List UInt8)) (e : Ending) (w' : World) : Prop :=
  (∃ v, e = .returned v) ∧ w'.ownsRow n₁ 3 1 (.slice (some ⟨g, 0, none⟩) (m + 1) cap) (m + 1) (rowV (x :: zs) bs) ∧ w.grownBy w' (some g)

/-- Between two rounds. -/
def StepInv (w : World) (n₁ g cap m : Nat) (x : List UInt8) (zs bs : List (List UInt8)) (pre : List (Nat × Value)) (W : World) : Prop :=
  (Boxed W w.heap.size 134 (.slice (some ⟨g, 0, none⟩) (m + 1) cap) ∧ Boxed W (w.heap.size + 1) 9 (strV x) ∧ Boxed W (w.heap.size + 1 + 1) 3 (.int .i64 ((lcs zs (bs.drop (m - pre.length)) : Nat) : Int))) ∧
    W.ownsRow n₁ 3 1 (.slice (some ⟨g, 0, none⟩) (m + 1) cap) (m + 1) (mixV x zs bs (m - pre.length)) ∧ w.grownBy W (some g)
theorem stepInv_ab (w : World) (n₁ g cap m : Nat) (x : List UInt8) (zs bs : List (List UInt8)) {B : Nat} (hB : w.heap.size ≤ B) : Ab Plain B (StepInv w n₁ g cap m x zs bs) :=
  Ab.and (Ab.and (ab_boxed _ (fun _ => plain_cells _ _ _)) (Ab.and (ab_boxed _ (fun _ => plain_cells _ _ _)) (ab_boxed _ (fun _ => plain_cells _ _ _)))) (Ab.and (ab_row _ _ (fun _ => plain_cells _ _ _)) (ab_grown hB))

theorem step_next {w W : World} {n₁ g cap m k : Nat} {x : List UInt8} {zs bs : List (List UInt8)} {pre : List (Nat × Value)} {v : Value} (hm : bs.length = m) (hp : pre.length + k + 1 = m) (hI : StepInv w n₁ g cap m x zs bs pre W) (hg : g < w.heap.size) (hn : n₁ ≤ g)
    {c : Int} (hc : c = ((lcs (x :: zs) (bs.drop k) : Nat) : Int)) :
    (∀ B, KeepsFrom B W ((W.setCell ⟨g, k, none⟩ (.int .i64 c)).setCell ⟨w.heap.size + 1 + 1, 0, none⟩ (.int .i64 ((lcs zs (bs.drop k) : Nat) : Int)))) ∧
      KpB n₁ (w.heap.size + 1 + 1 + 1) 33 W ((W.setCell ⟨g, k, none⟩ (.int .i64 c)).setCell ⟨w.heap.size + 1 + 1, 0, none⟩ (.int .i64 ((lcs zs (bs.drop k) : Nat) : Int))) ∧
      StepInv w n₁ g cap m x zs bs (pre ++ [(k, v)]) ((W.setCell ⟨g, k, none⟩ (.int .i64 c)).setCell ⟨w.heap.size + 1 + 1, 0, none⟩ (.int .i64 ((lcs zs (bs.drop k) : Nat) : Int))) := by
  subst hc
  obtain ⟨⟨h3, h4, h6⟩, hrow, hgr⟩ := hI
  have e1 : m - pre.length = k + 1 := by omega
  have e2 : m - (pre ++ [(k, v)]).length = k := by simp; omega
  rw [e1] at hrow
  obtain ⟨hr1, hg1⟩ := hrow.stored k (.int .i64 ((lcs (x :: zs) (bs.drop k) : Nat) : Int))
  rw [mixV_set _ _ _ (by omega)] at hr1
  have ne3 : w.heap.size ≠ g := by omega
  have k3 := h3.kept hg1 (by simp; omega)
  have k4 := h4.kept hg1 (by simp; omega)
  have k6 := h6.kept hg1 (by simp; omega)
  have hg2 := grownBy_setCell' (W.setCell ⟨g, k, none⟩ (.int .i64 ((lcs (x :: zs) (bs.drop k) : Nat) : Int))) (w.heap.size + 1 + 1) (.int .i64 ((lcs zs (bs.drop k) : Nat) : Int))
  refine ⟨fun B => ((KeepsOthers.setCell _ _ _).trans (KeepsOthers.setCell _ _ _)).from B, ⟨((Below.refl _ _).setCell (p := ⟨g, k, none⟩) hn _).setCell (p := ⟨w.heap.size + 1 + 1, 0, none⟩) (by show n₁ ≤ w.heap.size + 1 + 1; omega) _, fun u hu => (hu.kept hg1 (by simp; omega)).kept hg2 (by simp)⟩, ?_⟩
  unfold StepInv
  rw [e2]
  exact ⟨⟨k3.kept hg2 (by simp; omega), k4.kept hg2 (by simp), k6.set _⟩, hr1.kept hg2 (.inr (by simp [Value.ownBlock]; omega)), grow_trans (grow_trans hgr hg1 (fun j e => .inr (by simpa using e))) hg2 (fun j e => .inl (by cases e; omega))⟩

theorem grownBy_drew {w W : World} {r : Option Nat} (h : w.grownBy W r) : w.grownBy W.drew r := ⟨h.os, h.tape, h.output, h.size, h.block⟩
theorem keepsFrom_drew {B : Nat} {W X : World} (h : KeepsFrom B W X) : KeepsFrom B W X.drew := ⟨h.size, h.same⟩
theorem kpB_drew {n₁ Bs : Nat} {t : TypeId} {W X : World} (h : KpB n₁ Bs t W X) : KpB n₁ Bs t W X.drew := ⟨h.1.drew, h.2⟩
theorem stepInv_drew {w W : World} {n₁ g cap m : Nat} {x : List UInt8} {zs bs : List (List UInt8)} {pre : List (Nat × Value)} (h : StepInv w n₁ g cap m x zs bs pre W) : StepInv w n₁ g cap m x zs bs pre W.drew :=
  ⟨h.1, h.2.1, grownBy_drew h.2.2⟩

theorem boxes4 (w : World) (v0 v1 v2 v3 : Value) (t0 t1 t2 t3 : TypeId) :
    let w4 := (((w.alloc (.cells #[v0] t0)).alloc (.cells #[v1] t1)).alloc (.cells #[v2] t2)).alloc (.cells #[v3] t3)
    Boxed w4 w.heap.size t0 v0 ∧ Boxed w4 (w.heap.size + 1) t1 v1 ∧ Boxed w4 (w.heap.size + 1 + 1) t2 v2 ∧ Boxed w4 (w.heap.size + 1 + 1 + 1) t3 v3 ∧ w.grownBy w4 none := by
  intro w4
  have b0 := Boxed.new w t0 v0
  have b1 := Boxed.new (w.alloc (.cells #[v0] t0)) t1 v1
  have b2 := Boxed.new ((w.alloc (.cells #[v0] t0)).alloc (.cells #[v1] t1)) t2 v2
  have b3 := Boxed.new (((w.alloc (.cells #[v0] t0)).alloc (.cells #[v1] t1)).alloc (.cells #[v2] t2)) t3 v3
  simp only [World.size_alloc] at b1 b2 b3
  exact ⟨((b0.alloc _).alloc _).alloc _, (b1.alloc _).alloc _, b2.alloc _, b3,
    grow_trans (grow_trans (grow_trans (World.grownBy_alloc w _ none) (World.grownBy_alloc _ _ none) (by simp)) (World.grownBy_alloc _ _ none) (by simp)) (World.grownBy_alloc _ _ none) (by simp)⟩

set_option maxRecDepth 100000 in
set_option maxHeartbeats 2000000 in
theorem stepBack (A' : Option Addr) (c' m n₁ g cap : Nat) (x : List UInt8) (zs bs : List (List UInt8)) (w : World) (hm : bs.length = m) (hle : m ≤ 1000) (hR : RdS w n₁ A' bs) (hn : n₁ ≤ w.heap.size)
    (hrow : w.ownsRow n₁ 3 1 (.slice (some ⟨g, 0, none⟩) (m + 1) cap) (m + 1) (rowV zs bs)) :
    Calls Try.prog 125 #[.slice (some ⟨g, 0, none⟩) (m + 1) cap, strV x, .slice A' m c'] w (StepEnd w n₁ g cap m x zs bs) := by
  have HM := Lib.hid hm; clear hm
  obtain ⟨hng, hgw⟩ := hrow.lt g rfl
  refine (callsIn_wide (n := 3)).1 ?_
  refine callsIn_of_wp_marks Try.func125 rfl trivial ?_ rfl
  simp only [Try.ntmps125, List.size_toArray, List.length_cons, List.length_nil, Nat.reduceAdd, Nat.reduceSub, Array.replicate_succ, Array.replicate_zero, List.push_toArray, List.append_toArray, List.nil_append, List.cons_append]
  gi_wp2_with fail
  refine ⟨trivial, ?_⟩
  refine (backS_in 2 _ _ _ _).mono ?_
  rintro e w' ⟨rfl, rfl⟩
  gi_wp2
  obtain ⟨hB0, hB1, hB2, hB3, hg4⟩ := boxes4 w (.slice (some ⟨g, 0, none⟩) (m + 1) cap) (strV x) (.int .i64 0) (.slice A' m c') 134 9 3 33
  refine range_law' (n := 3) (gf := 126) (lb := #[.pointer (some ⟨w.heap.size + 1 + 1 + 1, 0, none⟩)]) rfl (enters_of Try.func126 (by kernel_rfl) rfl) (Free := Plain) (fun _ h => h)
    (backS_gives 2 (w.heap.size + 1 + 1 + 1) n₁ c' m A' (bs.map strV) (by simpa using HM.out) (by omega) _ hB3 (by simp; omega) (hR.below ((Below.refl _ _).grown hg4 hn (by simp)))) kpB_t (kpB_b (by simp; omega) (by simp)) kpB_r (fun _ => rfl)
    (StepInv w n₁ g cap m x zs bs) (fun _ _ _ => False) (stepInv_ab _ _ _ _ _ _ _ _ (by simp; omega)) (fun _ => ab_pure _ _ _) ?h0 ?a1 ?assign ?body ?done ?stop
  case h0 =>
    refine ⟨⟨hB0, hB1, ?_⟩, ?_, grow_trans (World.grownBy.refl _ _) hg4 (by simp)⟩
    · rw [List.length_nil, Nat.sub_zero, List.drop_of_length_le (by rw [HM.out]; exact Nat.le_refl _), lcs_nil_right]; exact hB2
    · rw [List.length_nil, Nat.sub_zero, ← HM.out, mixV_top, HM.out]; exact hrow.kept hg4 (.inr (by simp [Value.ownBlock]))
  case assign =>
    intro l x W K hK
    gi_wp2
    exact hK
  case body =>
    rintro l pre post ⟨k, v⟩ W hfull hI
    obtain ⟨hk, hv, hp⟩ := bk_split hfull
    dsimp only at hk hv hp
    clear hfull
    have hkb : k < bs.length := by simpa using hk
    have hkm : k < m := by rw [HM.out] at hkb; exact hkb
    obtain rfl : v = strV bs[k] := by rw [← hv]; simp
    clear hv hk
    rw [List.length_map, HM.out] at hp
    have hs := hrow.1
    obtain ⟨⟨h3, h4, h6⟩, hrw, hgr⟩ := id hI
    have HI := Lib.hid hI; clear hI
    have e1 : m - pre.length = k + 1 := by omega
    rw [e1] at hrw h6
    have hc3 := h3.cell
    have hc4 := h4.cell
    have hc6 := h6.cell
    have hf6 := h6.frozen
    have hck := hrw.cellAt k (by omega)
    have hck1 := hrw.cellAt (k + 1) (by omega)
    rw [mixV_at _ _ _ _ (by omega), if_pos (by omega)] at hck
    rw [mixV_at _ _ _ _ (by omega), if_neg (by omega)] at hck1
    have hfk := hrw.frozenAt k
    have hlk := lcs_len zs bs k
    have hlk1 := lcs_len zs bs (k + 1)
    have hlk2 := lcs_len (x :: zs) bs (k + 1)
    rw [HM.out] at hlk hlk1 hlk2
    have HP := Lib.hid hp; clear hp e1 hs h3 h4 h6 hrw hgr
    by_cases hxy : x = bs[k]
    · have HS := Lib.hid (lcs_step_same zs hkb hxy)
      have hd : (x == bs[k]) = true := by simpa using hxy
      generalize bs[k] = y at *
      clear hxy
      generalize hq : lcs zs (bs.drop (k + 1)) = q at *
      have HQ := Lib.hid hq; clear hq
      generalize hq0 : lcs zs (bs.drop k) = q0 at *
      have HQ0 := Lib.hid hq0; clear hq0
      gi_wp2
      have hend := step_next (v := strV y) HM.out HP.out HI.out hgw hng (c := (q : Int) + 1) (by rw [HS.out]; omega)
      rw [HQ0.out] at hend
      exact ⟨hend.1 _, hend.2⟩
    · have HS := Lib.hid (lcs_step_ne zs hkb hxy)
      have hd : (x == bs[k]) = false := by simpa using hxy
      generalize bs[k] = y at *
      clear hxy
      generalize hq : lcs (x :: zs) (bs.drop (k + 1)) = q at *
      have HQ := Lib.hid hq; clear hq
      generalize hq0 : lcs zs (bs.drop k) = q0 at *
      have HQ0 := Lib.hid hq0; clear hq0
      have hk1 : IntKind.i64.wrap ((k : Int) + 1) = (k : Int) + 1 := IntWalk.i64_in _ (by omega)
      gi_wp2
      have h0 : (0 : Int) ≤ (k : Int) + 1 := by omega
      have h1 : ((k : Int) + 1).toNat = k + 1 := by omega
      have h2 : (k : Int) + 1 < (m : Int) + 1 := by omega
      have h3 : (k : Int) < (m : Int) + 1 := by omega
      refine round_still 10 (by kernel_rfl) (by kernel_rfl) (by kernel_rfl) ?hq ?_
      case hq => rintro ⟨_, _, h⟩; exact h
      simp only [List.take_succ_cons, List.take_zero, List.drop_succ_cons, List.drop_zero]
      repeat still_step
      refine wpStill_nil ?_
      generalize hc : (if q0 < q then (q : Int) else (q0 : Int)) = c
      have HC := Lib.hid hc; clear hc h0 h1 h2 h3 hk1
      change wpList _ _ _ _ _ W.drew
      go_wp2
      gi_wp2
      have hend := step_next (v := strV y) HM.out HP.out HI.out hgw hng (c := c) (by rw [HS.out, ← HC.out]; split <;> omega)
      rw [HQ0.out] at hend
      exact ⟨keepsFrom_drew (hend.1 _), kpB_drew hend.2.1, stepInv_drew hend.2.2⟩
  case done =>
    rintro D W hD ⟨_, hrow', hgr⟩ hK
    gi_wp2
    refine ⟨by simp, .inl ⟨_, _, rfl, run_takeDeferred hK, ?_⟩⟩
    refine ⟨_, results_none rfl _ _ _, ⟨_, rfl⟩, ?_, ?_⟩
    · have := ownsRow_putObj hrow' (.deferred none) hK rfl
      rw [bk_length, List.length_map, HM.out, Nat.sub_self, mixV_zero] at this
      exact this
    · exact grow_trans hgr (grownBy_putObj' _ D _) (fun j e => .inl (by cases e; simp at hD; omega))
  case stop =>
    rintro D c pre post W _ _ h _
    exact h.elim

end Lc
end Go.Proofs.Ytjhjmfodpnipiaa

namespace Go.Proofs.Ytjhjmfodpnipiaa
open Go.RowKit Go.Shelf
set_option linter.unusedVariables false
namespace Lc
open Tx Rg
attribute [local go_sem] Oper.semAt_some

theorem info_int : (Try.prog.info? 3).map (fun i => (i.zero, i.size, i.bytes)) = some (some (.int .i64 0), 1, 8) := by kernel_rfl

/-- How a call ends that answers a row of its own. -/
def RowEnd (w : World) (n : Nat) (xs : List Value) (e : Ending) (w' : World) : Prop :=
  ∃ v, e = .returned v ∧ w'.ownsRow w.heap.size 3 1 v n xs ∧ Below w.heap.size w w'

theorem rd_cells {w : World} {B : Nat} {a : Addr} {xs : List Value} (h : Rd w B (some a) xs) : ∀ j u, xs[j]? = some u → w.cell? (a.add j) = some u := by
  rcases h with rfl | ⟨a', e, _, hc⟩
  · intro j u hu; simp at hu
  · injection e with e; subst e; exact hc
theorem rowV_one {α : Type} [DecidableEq α] (a b : List α) : ∀ u ∈ rowV a b, u.oneCell' = true := by
  intro u hu
  obtain ⟨j, _, rfl⟩ := List.mem_map.1 hu
  rfl

set_option maxHeartbeats 400000 in
theorem CloneR (a : Addr) (cap n B : Nat) (xs : List Value) (w : World) (hn : xs.length = n) (hle : n ≤ 2000) (hB : B ≤ w.heap.size) (hR : Rd w B (some a) xs) (h1 : ∀ u ∈ xs, u.oneCell' = true) :
    Calls Try.prog 123 #[.slice (some a) n cap] w (RowEnd w n xs) := by
  obtain ⟨j0, hj, hy0, hy1, hy2⟩ := info_parts info_int
  have q := fun (w : World) (a : Option Addr) (n c n' c' : Nat) => Lib.run_eql_slice_nil (P := Try.prog) w 134 3 a n c n' c' Try.underlying134
  have HN := Lib.hid hn; clear hn
  have hR1 := fun o => hR.below ((Below.refl _ _).alloc hB o)
  have HR1 := Lib.hid hR1; clear hR1
  go_enter Try.func123, Try.ntmps123
  go_wp2_with (at_builtin; refine wpList_append_own _ rfl (.tmp 5) (.tmp 6) 134 rfl w.heap.size 3 j0 (.int .i64 0) 1 8 Try.underlying134 hj hy0 hy1 hy2 rfl (by decide) (.slice (some ⟨w.heap.size, 0, none⟩) 0 0) 0 [] rfl (World.ownsRow_made _ #[] 0 (Nat.le_refl _) (Nat.zero_le _) rfl) a n cap xs rfl (by rw [Nat.mul_one]; exact HN.out) (rd_cells (HR1.out _)) h1 (by unfold maxLen; omega) (by omega) (by simp) ?_; intro v' w' hA hg _; simp only [Nat.zero_add, List.nil_append] at hA)
  go_ret
  exact ⟨_, rfl, hA, ((Below.refl _ _).alloc (Nat.le_refl _) _).grown hg (by simp) (fun k e => by cases e; exact Nat.le_refl _)⟩

theorem made_zero (n : Nat) : (madeCells (Value.int .i64 0).cells n).toList = List.replicate n (Value.int .i64 0) := by
  refine List.ext_getElem (by simp [madeCells]) fun i h1 h2 => ?_
  simp [madeCells, Value.cells, Nat.mod_one]
theorem rowV_nil {α : Type} [DecidableEq α] (b : List α) : rowV [] b = List.replicate (b.length + 1) (Value.int .i64 0) := by
  refine List.ext_getElem (by simp [rowV]) fun i h1 h2 => ?_
  simp [rowV, lcs_nil_left]

set_option maxHeartbeats 400000 in
theorem None (A : Option Addr) (cap m : Nat) (bs : List (List UInt8)) (w : World) (hm : bs.length = m) (hle : m ≤ 1000) :
    Calls Try.prog 115 #[.slice A m cap] w (RowEnd w (m + 1) (rowV [] bs)) := by
  obtain ⟨j0, hj, hy0, hy1, hy2⟩ := info_parts info_int
  have HN := Lib.hid hm; clear hm
  go_enter Try.func115, Try.ntmps115
  go_wp2_with (refine wpList_make_full _ rfl (.tmp 5) (.tmp 5) 134 rfl w.heap.size 3 j0 (.int .i64 0) 1 Try.underlying134 hj hy0 hy1 .i64 .i64 _ _ (m + 1) rfl rfl (by simp) (by simp) (by rw [hy2]; omega) (by unfold maxLen; omega) (Nat.le_refl _) ?_; intro w' hA hg)
  go_ret
  refine ⟨_, rfl, ?_, (Below.refl _ _).grown hg (Nat.le_refl _) (fun k e => by cases e)⟩
  rw [rowV_nil, HN.out, ← made_zero]
  simpa using hA

/-- Between two rounds of left. -/
def LeftInv (w : World) (Br m n : Nat) (bv v : Value) (ls zs bs : List (List UInt8)) (pre : List (Nat × Value)) (W : World) : Prop :=
  (Boxed W w.heap.size 33 bv ∧ Boxed W Br 134 v) ∧ W.ownsRow w.heap.size 3 1 v (m + 1) (rowV (ls.drop (n - pre.length) ++ zs) bs) ∧ Below w.heap.size w W
theorem leftInv_ab (w : World) (Br m n : Nat) (bv v : Value) (ls zs bs : List (List UInt8)) {B : Nat} (hB : w.heap.size ≤ B) : Ab Plain B (LeftInv w Br m n bv v ls zs bs) :=
  Ab.and (Ab.and (ab_boxed _ (fun _ => plain_cells _ _ _)) (ab_boxed _ (fun _ => plain_cells _ _ _))) (Ab.and (ab_row _ _ (fun _ => plain_cells _ _ _)) (ab_below (Nat.le_refl _) hB))

theorem left_next {w W W' : World} {Br Bs m n k g cap : Nat} {bv u : Value} {ls zs bs : List (List UInt8)} {pre : List (Nat × Value)} (hk : k < ls.length) (hn : ls.length = n) (hp : pre.length + k + 1 = n)
    (hI : LeftInv w Br m n bv (.slice (some ⟨g, 0, none⟩) (m + 1) cap) ls zs bs pre W)
    (hr : W'.ownsRow w.heap.size 3 1 (.slice (some ⟨g, 0, none⟩) (m + 1) cap) (m + 1) (rowV (ls[k] :: (ls.drop (n - pre.length) ++ zs)) bs)) (hg : W.grownBy W' (some g)) :
    (∀ B, KeepsFrom B W W') ∧ KpB w.heap.size Bs 33 W W' ∧ LeftInv w Br m n bv (.slice (some ⟨g, 0, none⟩) (m + 1) cap) ls zs bs (pre ++ [(k, u)]) W' := by
  obtain ⟨⟨hb, hr0⟩, hrow, hbel⟩ := hI
  have hgw := (hrow.lt g rfl).1
  have hgb : ∃ cur, W.heap[g]? = some (.cells cur 3 (0, 0)) := by
    rcases hrow.2 with ⟨h, _⟩ | ⟨g', _, cur, h, _, h3, _⟩
    · cases h
    · injection h with h; injection h with h; injection h with h; subst h; exact ⟨cur, h3⟩
  obtain ⟨cur, hcur⟩ := hgb
  have nb : ∀ {b : Nat} {t : TypeId} {v : Value}, Boxed W b t v → t ≠ 3 → some b ≠ some g := fun h ht => h.not_row ht hrow
  refine ⟨fun B => (KeepsOthers.of_grownBy hg (fun j o e ho => by cases e; rw [hcur] at ho; cases ho; rfl)).from B, ⟨(Below.refl _ _).grown hg (by have := hbel.size; omega) (fun j e => by cases e; exact hgw), fun v hv => hv.kept hg (nb hv (by decide))⟩,
    ⟨hb.kept hg (nb hb (by decide)), hr0.kept hg (nb hr0 (by decide))⟩, ?_, hbel.grown hg hbel.size (fun j e => by cases e; exact hgw)⟩
  have e2 : n - (pre ++ [(k, u)]).length = k := by simp; omega
  have e1 : n - pre.length = k + 1 := by omega
  rw [e2, List.drop_eq_getElem_cons hk]
  rw [e1] at hr
  exact hr

set_option maxRecDepth 100000 in
set_option maxHeartbeats 2000000 in
theorem left (A A' Ar : Option Addr) (c c' cr n m B : Nat) (ls zs bs : List (List UInt8)) (w : World) (hn : ls.length = n) (hm : bs.length = m) (hln : n ≤ 1000) (hlm : m ≤ 1000) (hB : B ≤ w.heap.size)
    (hR : RdS w B A ls) (hR' : RdS w B A' bs) (hRr : Rd w B Ar (rowV zs bs)) :
    Calls Try.prog 119 #[.slice A n c, .slice A' m c', .slice Ar (m + 1) cr] w (RowEnd w (m + 1) (rowV (ls ++ zs) bs)) := by
  have HM := Lib.hid hm; clear hm
  have HN := Lib.hid hn; clear hn
  obtain ⟨ar, rfl, _, _⟩ := hRr.at_ (k := 0) (by rw [rowV_length]; omega)
  have hR1 : ∀ o, Rd (w.alloc o) B (some ar) (rowV zs bs) := fun o => hRr.below ((Below.refl _ _).alloc hB o)
  have HR1 := Lib.hid hR1; clear hR1
  refine (callsIn_wide (n := 3)).1 ?_
  refine callsIn_of_wp_marks Try.func119 rfl trivial ?_ rfl
  simp only [Try.ntmps119, List.size_toArray, List.length_cons, List.length_nil, Nat.reduceAdd, Nat.reduceSub, Array.replicate_succ, Array.replicate_zero, List.push_toArray, List.append_toArray, List.nil_append, List.cons_append]
  gi_wp2_with fail
  refine ⟨trivial, ?_⟩
  refine (callsIn_wide.2 (CloneR ar cr (m + 1) B (rowV zs bs) _ (by rw [rowV_length, HM.out]) (by omega) (by simp; omega) (HR1.out _) (rowV_one _ _))).mono ?_
  rintro e w2 ⟨v, rfl, hrow, hbel⟩
  obtain ⟨g, cap, rfl⟩ := ownsRow_succ hrow
  have hbox := (show Boxed w2 w.heap.size 33 (.slice A' m c') from (hbel.block _ (by simp)).trans (Boxed.new w _ _))
  have hw2 : Below w.heap.size w w2 := ((Below.refl _ _).alloc (Nat.le_refl _) _).trans (hbel.mono (by simp))
  have hrw := own_mono (base' := w.heap.size) hrow (by simp)
  have hgw := (hrow.lt g rfl)
  have hsz := hw2.size
  clear hrow hbel
  gi_wp2_with fail
  refine ⟨trivial, ?_⟩
  refine (backS_in 2 _ _ _ _).mono ?_
  rintro e w' ⟨rfl, rfl⟩
  gi_wp2
  have hB1 := Boxed.new w2 134 (.slice (some ⟨g, 0, none⟩) (m + 1) cap)
  have hB2 := Boxed.new (w2.alloc (.cells #[.slice (some ⟨g, 0, none⟩) (m + 1) cap] 134)) 33 (.slice A n c)
  rw [World.size_alloc] at hB2
  have hw4 : Below w.heap.size w ((w2.alloc (.cells #[.slice (some ⟨g, 0, none⟩) (m + 1) cap] 134)).alloc (.cells #[.slice A n c] 33)) := (hw2.alloc hsz _).alloc (by simp; omega) _
  refine range_law' (n := 3) (gf := 126) (lb := #[.pointer (some ⟨w2.heap.size + 1, 0, none⟩)]) rfl (enters_of Try.func126 (by kernel_rfl) rfl) (Free := Plain) (fun _ h => h)
    (backS_gives 2 (w2.heap.size + 1) w.heap.size c n A (ls.map strV) (by simpa using HN.out) (by omega) _ hB2 (by simp; omega) ((hR.up hB).below hw4)) kpB_t (kpB_b (by simp; omega) (by simp)) kpB_r (fun _ => rfl)
    (LeftInv w w2.heap.size m n (.slice A' m c') (.slice (some ⟨g, 0, none⟩) (m + 1) cap) ls zs bs) (fun _ _ _ => False) (leftInv_ab _ _ _ _ _ _ _ _ _ (by simp; omega)) (fun _ => ab_pure _ _ _) ?h0 ?a1 ?assign ?body ?done ?stop
  case h0 =>
    refine ⟨⟨(hbox.alloc _).alloc _, hB1.alloc _⟩, ?_, hw4⟩
    rw [List.length_nil, Nat.sub_zero, List.drop_of_length_le (by rw [HN.out]; exact Nat.le_refl _)]
    exact (hrw.alloc _).alloc _
  case assign =>
    intro l x W K hK
    gi_wp2
    exact hK
  case body =>
    rintro l pre post ⟨k, v⟩ W hfull hI
    obtain ⟨hk, hv, hp⟩ := bk_split hfull
    dsimp only at hk hv hp
    clear hfull
    have hkb : k < ls.length := by simpa using hk
    obtain rfl : v = strV ls[k] := by rw [← hv]; simp
    clear hv hk
    rw [List.length_map, HN.out] at hp
    obtain ⟨⟨h3, h4⟩, hrw', hgr⟩ := id hI
    have HI := Lib.hid hI; clear hI
    have hc3 := h3.cell
    have hc4 := h4.cell
    have hsW := hgr.size
    have HP := Lib.hid hp; clear hp
    gi_wp2_with fail
    refine ⟨trivial, ?_⟩
    refine (CallsIn.inRound l (callsIn_wide.2 (stepBack A' c' m w.heap.size g cap ls[k] (ls.drop (n - pre.length) ++ zs) bs _ HM.out hlm ((hR'.up hB).below hgr) hsW hrw'))).mono ?_
    rintro e W' ⟨⟨v, rfl⟩, hr2, hg2⟩
    have hend := left_next (Bs := w2.heap.size + 1) (u := strV ls[k]) hkb HN.out HP.out HI.out hr2 hg2
    gi_wp2
    exact ⟨hend.1 _, hend.2⟩
  case done =>
    rintro D W hD ⟨⟨_, h4⟩, hrow', hgr⟩ hK
    have hc := h4.cell
    gi_wp2
    refine ⟨by simp, .inl ⟨_, _, rfl, run_takeDeferred hK, ?_⟩⟩
    refine ⟨_, results_tmp rfl _ _ _, _, rfl, ?_, ?_⟩
    · have := ownsRow_putObj hrow' (.deferred none) hK rfl
      rw [bk_length, List.length_map, HN.out, Nat.sub_self, List.drop_zero] at this
      exact this
    · exact hgr.grown (grownBy_putObj' _ D _) hgr.size (fun j e => by cases e; simp at hD; omega)
  case stop =>
    rintro D c pre post W _ _ h _
    exact h.elim

/-- How Many ends: nothing that was there is written. -/
def ManyEnd (w : World) (k : Nat) (e : Ending) (w' : World) : Prop := e = .returned (.int .i64 (k : Int)) ∧ Below w.heap.size w w'

end Lc
end Go.Proofs.Ytjhjmfodpnipiaa

namespace Go.Proofs.Ytjhjmfodpnipiaa
open Go.RowKit Go.Shelf
set_option linter.unusedVariables false
namespace Lc
open Tx Rg
attribute [local go_sem] Oper.semAt_some

/-- The parts of a slice of m items at A, from item i on, as values. -/
def chV (A : Option Addr) (sz m i : Nat) : List Value :=
  if i < m ∧ 0 < sz then .slice (A.map (·.add i)) (min sz (m - i)) (min sz (m - i)) :: chV A sz m (i + sz) else []
  termination_by m - i
/-- .. as lists. -/
def ch {α : Type} (sz : Nat) (ls : List α) (i : Nat) : List (List α) :=
  if i < ls.length ∧ 0 < sz then (ls.drop i).take sz :: ch sz ls (i + sz) else []
  termination_by ls.length - i

theorem chV_some {A : Option Addr} {sz m i : Nat} (h : i < m) (hz : 0 < sz) : chV A sz m i = .slice (A.map (·.add i)) (min sz (m - i)) (min sz (m - i)) :: chV A sz m (i + sz) := by
  conv => lhs; unfold chV; rw [if_pos ⟨h, hz⟩]
theorem chV_none {A : Option Addr} {sz m i : Nat} (h : m ≤ i) : chV A sz m i = [] := by
  unfold chV; rw [if_neg (by omega)]
theorem ch_some {α : Type} {sz i : Nat} {ls : List α} (h : i < ls.length) (hz : 0 < sz) : ch sz ls i = (ls.drop i).take sz :: ch sz ls (i + sz) := by
  conv => lhs; unfold ch; rw [if_pos ⟨h, hz⟩]
theorem ch_none {α : Type} {sz i : Nat} {ls : List α} (h : ls.length ≤ i) : ch sz ls i = [] := by
  unfold ch; rw [if_neg (by omega)]
theorem ch_join {α : Type} {sz : Nat} (hz : 0 < sz) (ls : List α) : ∀ (f i : Nat), ls.length - i ≤ f → (ch sz ls i).flatten = ls.drop i
  | f, i, hf => by
    by_cases h : i < ls.length
    · rw [ch_some h hz, List.flatten_cons]
      cases f with
      | zero => omega
      | succ f => rw [ch_join hz ls f (i + sz) (by omega), ← List.drop_drop, List.take_append_drop]
    · rw [ch_none (by omega), List.drop_of_length_le (by omega)]; rfl
theorem ch_one {α : Type} (ls : List α) : ∀ (f i : Nat), ls.length - i ≤ f → ch 1 ls i = (ls.drop i).map fun x => [x]
  | f, i, hf => by
    by_cases h : i < ls.length
    · rw [ch_some h (by omega)]
      cases f with
      | zero => omega
      | succ f => rw [ch_one ls f (i + 1) (by omega), List.drop_eq_getElem_cons h, List.map_cons, List.take_succ_cons, List.take_zero]
    · rw [ch_none (by omega), List.drop_of_length_le (by omega)]; rfl

/-- A value that reads as a list of lines; values that read as lists of lines. -/
def Part (w : World) (B : Nat) (v : Value) (p : List (List UInt8)) : Prop := ∃ A c, v = .slice A p.length c ∧ p.length ≤ c ∧ RdS w B A p
def Parts (w : World) (B : Nat) (vs : List Value) (ps : List (List (List UInt8))) : Prop := vs.length = ps.length ∧ ∀ (i : Nat) (v : Value) (p : List (List UInt8)), vs[i]? = some v → ps[i]? = some p → Part w B v p
theorem Part.below {w w' : World} {B : Nat} {v : Value} {p : List (List UInt8)} (h : Part w B v p) (hb : Below B w w') : Part w' B v p := let ⟨A, c, e, l, h⟩ := h; ⟨A, c, e, l, h.below hb⟩
theorem Part.up {w : World} {B B' : Nat} {v : Value} {p : List (List UInt8)} (h : Part w B v p) (hb : B ≤ B') : Part w B' v p := let ⟨A, c, e, l, h⟩ := h; ⟨A, c, e, l, h.up hb⟩
theorem Parts.below {w w' : World} {B : Nat} {vs : List Value} {ps : List (List (List UInt8))} (h : Parts w B vs ps) (hb : Below B w w') : Parts w' B vs ps := ⟨h.1, fun i v p h1 h2 => (h.2 i v p h1 h2).below hb⟩
theorem Parts.up {w : World} {B B' : Nat} {vs : List Value} {ps : List (List (List UInt8))} (h : Parts w B vs ps) (hb : B ≤ B') : Parts w B' vs ps := ⟨h.1, fun i v p h1 h2 => (h.2 i v p h1 h2).up hb⟩
theorem parts_nil (w : World) (B : Nat) : Parts w B [] [] := ⟨rfl, fun i v p h => by simp at h⟩
theorem parts_cons {w : World} {B : Nat} {v : Value} {p : List (List UInt8)} {vs : List Value} {ps : List (List (List UInt8))} (h : Part w B v p) (hs : Parts w B vs ps) : Parts w B (v :: vs) (p :: ps) :=
  ⟨by simp [hs.1], fun i v' p' h1 h2 => by
    cases i with
    | zero => simp at h1 h2; subst h1; subst h2; exact h
    | succ i => simp at h1 h2; exact hs.2 i v' p' h1 h2⟩
theorem Parts.at_ {w : World} {B : Nat} {vs : List Value} {ps : List (List (List UInt8))} (h : Parts w B vs ps) {k : Nat} (h1 : k < vs.length) (h2 : k < ps.length) : Part w B vs[k] ps[k] := h.2 k _ _ (List.getElem?_eq_getElem h1) (List.getElem?_eq_getElem h2)

theorem parts_ch {w : World} {B : Nat} {A : Option Addr} {ls : List (List UInt8)} (hR : RdS w B A ls) {sz : Nat} (hz : 0 < sz) : ∀ (f i : Nat), ls.length - i ≤ f → Parts w B (chV A sz ls.length i) (ch sz ls i)
  | f, i, hf => by
    by_cases h : i < ls.length
    · rw [chV_some h hz, ch_some h hz]
      cases f with
      | zero => omega
      | succ f =>
        refine parts_cons ⟨_, _, by rw [List.length_take, List.length_drop], by rw [List.length_take, List.length_drop]; exact Nat.le_refl _, ?_⟩ (parts_ch hR hz f (i + sz) (by omega))
        have h1 : Rd w B (A.map (·.add i)) ((ls.map strV).drop i) := by
          have := Rd.drop (k := i) (cap := ls.length) hR (by simp)
          rwa [if_neg (by omega)] at this
        have h2 := h1.take sz
        unfold RdS
        rw [List.map_take, List.map_drop]
        exact h2
    · rw [chV_none (by omega), ch_none (by omega)]; exact parts_nil _ _
theorem chV_one (A : Option Addr) (sz m : Nat) : ∀ (f i : Nat), m - i ≤ f → ∀ u ∈ chV A sz m i, u.oneCell' = true
  | f, i, hf, u, hu => by
    unfold chV at hu
    split at hu
    · rename_i h
      cases f with
      | zero => omega
      | succ f =>
        rcases List.mem_cons.1 hu with rfl | hu
        · rfl
        · exact chV_one A sz m f (i + sz) (by omega) u hu
    · cases hu
theorem chV_len (A : Option Addr) (sz m : Nat) : ∀ (f i : Nat), m - i ≤ f → (chV A sz m i).length ≤ m - i
  | f, i, hf => by
    unfold chV
    split
    · rename_i h
      cases f with
      | zero => omega
      | succ f => have := chV_len A sz m f (i + sz) (by omega); simp only [List.length_cons]; omega
    · simp

/-- What a round must keep: what lies below n₁, and two boxes. -/
def KpC (n₁ Bs : Nat) (t : TypeId) (Bn : Nat) (t' : TypeId) (W W' : World) : Prop := Below n₁ W W' ∧ (∀ v, Boxed W Bs t v → Boxed W' Bs t v) ∧ ∀ v, Boxed W Bn t' v → Boxed W' Bn t' v
theorem kpC_t {n₁ Bs Bn : Nat} {t t' : TypeId} {A B C : World} (h : KpC n₁ Bs t Bn t' A B) (k : KpC n₁ Bs t Bn t' B C) : KpC n₁ Bs t Bn t' A C := ⟨h.1.trans k.1, fun v hv => k.2.1 v (h.2.1 v hv), fun v hv => k.2.2 v (h.2.2 v hv)⟩
theorem kpC_r {n₁ Bs Bn : Nat} {t t' : TypeId} (W : World) : KpC n₁ Bs t Bn t' W W := ⟨Below.refl _ _, fun _ h => h, fun _ h => h⟩
theorem kpC_b {n₁ Bs Bn l : Nat} {t t' : TypeId} (hn : n₁ ≤ l) (hB : Bs ≠ l) (hB' : Bn ≠ l) (W : World) (o o' : Obj) (h : W.heap[l]? = some o) (_ : o.isCells = false) : KpC n₁ Bs t Bn t' W (W.putObj l o') :=
  ⟨(Below.refl n₁ W).grown (grownBy_putObj' W l o') (by have := (Array.getElem?_eq_some_iff.1 h).1; omega) (fun k e => by cases e; exact hn), fun v hv => hv.kept (grownBy_putObj' W l o') (by simpa using hB), fun v hv => hv.kept (grownBy_putObj' W l o') (by simpa using hB')⟩

theorem chunk_in (n : Nat) (A : Option Addr) (l c sz : Nat) (w : World) (hz : 1 ≤ sz) (hz' : sz ≤ 1000) :
    CallsIn Fence.wide n Try.prog 117 #[.slice A l c, .int .i64 (sz : Int)] w fun e w' => e = .returned (.func (.func 121) #[] #[.pointer (some ⟨w.heap.size, 0, none⟩), .pointer (some ⟨w.heap.size + 1, 0, none⟩)]) ∧ w' = (w.alloc (.cells #[.slice A l c] 33)).alloc (.cells #[.int .i64 (sz : Int)] 3) := by
  have h1 : ¬ (sz : Int) < 1 := by omega
  refine callsIn_of_wp Try.func117 rfl trivial ?_ rfl
  simp only [Try.ntmps117, List.size_toArray, List.length_cons, List.length_nil, Nat.reduceAdd, Nat.reduceSub, Array.replicate_succ, Array.replicate_zero, List.push_toArray, List.append_toArray, List.nil_append, List.cons_append]
  gi_wp2
  go_ret
  exact ⟨rfl, rfl⟩

set_option maxRecDepth 100000 in
set_option maxHeartbeats 1000000 in
theorem chunk1_in (n l Bs Bn n₁ cap m sz : Nat) (A : Option Addr) (ls : List (List UInt8)) (hm : ls.length = m) (hmc : m ≤ cap) (hle : m ≤ 1000) (hz : 1 ≤ sz) (hz' : sz ≤ 1000) (J Jx : List Value → World → Prop)
    (hY : ∀ pre x post W1, chV A sz m 0 = pre ++ x :: post → J pre W1 → YieldAt Fence.wide (n - 1) Try.prog l #[x] W1 fun e W' =>
      (e = .returned (.bool true) ∧ J (pre ++ [x]) W' ∧ KpC n₁ Bs 33 Bn 3 W1 W') ∨ (e = .returned (.bool false) ∧ Jx (pre ++ [x]) W'))
    (hJd : ∀ s W d, J s W → J s (W.drewN d)) (W : World) (hBs : Boxed W Bs 33 (.slice A m cap)) (hBn : Boxed W Bn 3 (.int .i64 (sz : Int))) (hR : RdS W n₁ A ls) (h0 : J [] W) :
    CallsIn Fence.wide n Try.prog 121 #[.func (.yield l) #[] #[], .pointer (some ⟨Bs, 0, none⟩), .pointer (some ⟨Bn, 0, none⟩)] W fun e W' => (∃ v, e = .returned v) ∧ (J (chV A sz m 0) W' ∨ ∃ pre post, chV A sz m 0 = pre ++ post ∧ Jx pre W') := by
  have HM := Lib.hid hm; clear hm
  refine callsIn_of_wp Try.func121 rfl trivial ?_ rfl
  simp only [Try.ntmps121, List.size_toArray, List.length_cons, List.length_nil, Nat.reduceAdd, Nat.reduceSub, Array.replicate_succ, Array.replicate_zero, List.push_toArray, List.append_toArray, List.nil_append, List.cons_append]
  gi_wp2
  gi_loopw [4] (fun i wr => ∃ k pre, k ≤ m + sz ∧ i = .int .i64 (k : Int) ∧ chV A sz m 0 = pre ++ chV A sz m k ∧ J pre wr ∧ Boxed wr Bs 33 (.slice A m cap) ∧ Boxed wr Bn 3 (.int .i64 (sz : Int)) ∧ RdS wr n₁ A ls) (fun i _ => m - (intOf i).toNat)
  case atStart => exact ⟨0, [], by omega, rfl, rfl, h0, hBs, hBn, hR⟩
  case round =>
    obtain ⟨k, pre, hk, rfl, hb, hJs, hBs', hBn', hR'⟩ := hrel
    have HB := Lib.hid hb; clear hb
    have hc := hBs'.cell
    have hcn := hBn'.cell
    by_cases hlt : k < m
    · obtain ⟨a, rfl, hab⟩ := hR'.at' (k := k) (by rw [HM.out]; exact hlt)
      clear hab
      have HB2 : Hid (chV (some a) sz m 0 = pre ++ .slice (some (a.add k)) (min sz (m - k)) (min sz (m - k)) :: chV (some a) sz m (k + sz)) := Lib.hid (by rw [HB.out, chV_some hlt (by omega)]; rfl)
      clear HB
      obtain ⟨e, he⟩ : ∃ e, min sz (m - k) = e := ⟨_, rfl⟩
      rw [he] at HB2
      have h1 : 1 ≤ e := by omega
      have h2 : k + e ≤ m := by omega
      have hcap : ¬ cap = k := by omega
      have hki : (k : Int) ≤ (m : Int) := by omega
      have HE := Lib.hid he; clear he
      by_cases hmin : (m : Int) - (k : Int) < (sz : Int)
      · gi_wp2
        refine wpIn_wide.2 ?_
        go_quiet (fail)
        rw [show m - k = e by have := HE.out; omega]
        clear hmin
        obtain ⟨fn, tmps, assign, body, hy, hRR⟩ := hY pre _ _ (wr.drewN nq) HB2.out (hJd _ _ _ hJs)
        gi_wp2
        refine ⟨(fun h => by cases h), ?_⟩
        refine hRR.mono ?_
        rintro e' W3 (⟨rfl, hJ3, hk3⟩ | ⟨rfl, hJx3⟩)
        · have hb3 := hk3.2.1 _ hBs'
          have hn3 := hk3.2.2 _ hBn'
          have hc3 := hb3.cell
          have hcn3 := hn3.cell
          gi_wp2
          go_roundw
          case rel => exact ⟨k + sz, _, by omega, by go_num, by rw [HB2.out, List.append_assoc]; rfl, hJ3, hb3, hn3, (Rd.drewN hR' nq).below hk3.1⟩
          case measure => simp [intOf]; omega
        · gi_wp2
          refine bodyPost_ret (results_none rfl _ _ _) rfl ?_
          exact ⟨⟨_, rfl⟩, .inr ⟨_, chV (some a) sz m (k + sz), by rw [HB2.out, List.append_assoc]; rfl, hJx3⟩⟩
      · gi_wp2
        refine wpIn_wide.2 ?_
        go_quiet (fail)
        obtain rfl : e = sz := by have := HE.out; omega
        clear hmin
        obtain ⟨fn, tmps, assign, body, hy, hRR⟩ := hY pre _ _ (wr.drewN nq) HB2.out (hJd _ _ _ hJs)
        gi_wp2
        refine ⟨(fun h => by cases h), ?_⟩
        refine hRR.mono ?_
        rintro e' W3 (⟨rfl, hJ3, hk3⟩ | ⟨rfl, hJx3⟩)
        · have hb3 := hk3.2.1 _ hBs'
          have hn3 := hk3.2.2 _ hBn'
          have hc3 := hb3.cell
          have hcn3 := hn3.cell
          gi_wp2
          go_roundw
          case rel => exact ⟨k + e, _, by omega, by go_num, by rw [HB2.out, List.append_assoc]; rfl, hJ3, hb3, hn3, (Rd.drewN hR' nq).below hk3.1⟩
          case measure => simp [intOf]; omega
        · gi_wp2
          refine bodyPost_ret (results_none rfl _ _ _) rfl ?_
          exact ⟨⟨_, rfl⟩, .inr ⟨_, chV (some a) e m (k + e), by rw [HB2.out, List.append_assoc]; rfl, hJx3⟩⟩
    · have hge : ¬ (k : Int) < (m : Int) := by omega
      gi_wp2
      go_end0
      exact ⟨⟨_, rfl⟩, .inl (by have := HB.out; rw [chV_none (i := k) (by omega), List.append_nil] at this; rw [this]; exact hJs)⟩

theorem drew_new (w : World) (d : Nat) : w.grownBy (w.drewN d) none := ⟨rfl, rfl, rfl, Nat.le_refl _, fun _ _ _ => rfl⟩

theorem chunk_gives (n Bs Bn n₁ cap m sz : Nat) (A : Option Addr) (ls : List (List UInt8)) (hm : ls.length = m) (hmc : m ≤ cap) (hle : m ≤ 1000) (hz : 1 ≤ sz) (hz' : sz ≤ 1000) (w : World) (hBs : Boxed w Bs 33 (.slice A m cap)) (hBn : Boxed w Bn 3 (.int .i64 (sz : Int))) (hn : n₁ ≤ w.heap.size) (hR : RdS w n₁ A ls) :
    Gives Try.prog Plain n 121 #[.pointer (some ⟨Bs, 0, none⟩), .pointer (some ⟨Bn, 0, none⟩)] (fun x : Value => #[x]) (chV A sz m 0) (KpC n₁ Bs 33 Bn 3) w := fun J Jx W hW _ hJ _ hY h0 =>
  chunk1_in n _ Bs Bn n₁ cap m sz A ls hm hmc hle hz hz' J Jx (fun pre x post W1 h1 h2 => yield_less (hY pre x post _ W1 h1 h2 rfl)) (fun s W d hs => hJ.new hs (drew_new W d)) W ((hW.block Bs hBs.lt).trans hBs) ((hW.block Bn hBn.lt).trans hBn) (hR.below (hW.mono hn)) h0

end Lc
end Go.Proofs.Ytjhjmfodpnipiaa

namespace Go.Proofs.Ytjhjmfodpnipiaa
open Go.RowKit Go.Shelf
set_option linter.unusedVariables false
namespace Lc
open Tx Rg
attribute [local go_sem] Oper.semAt_some

theorem info_strs : (Try.prog.info? 33).map (fun i => (i.zero, i.size, i.bytes)) = some (some (.slice none 0 0), 1, 24) := by kernel_rfl

theorem chV_form (A : Option Addr) (sz m : Nat) : ∀ (f i : Nat), m - i ≤ f → ∀ u ∈ chV A sz m i, ∃ A' n c, u = .slice A' n c
  | f, i, hf, u, hu => by
    unfold chV at hu
    split at hu
    · rename_i h
      cases f with
      | zero => omega
      | succ f =>
        rcases List.mem_cons.1 hu with rfl | hu
        · exact ⟨_, _, _, rfl⟩
        · exact chV_form A sz m f (i + sz) (by omega) u hu
    · cases hu

/-- How a call ends that answers slices in a row of its own. -/
def SlEnd (w : World) (vs : List Value) (e : Ending) (w' : World) : Prop :=
  ∃ v, e = .returned v ∧ w'.ownsRow w.heap.size 33 1 v vs.length vs ∧ Below w.heap.size w w'

def AppInv (w : World) (pre : List Value) (W : World) : Prop :=
  (∃ v, Boxed W w.heap.size 139 v ∧ W.ownsRow w.heap.size 33 1 v pre.length pre) ∧ Below w.heap.size w W
theorem appInv_ab (w : World) {B : Nat} (hB : w.heap.size ≤ B) : Ab Plain B (AppInv w) :=
  Ab.and (ab_ex fun v => Ab.and (ab_boxed (fun _ => v) (fun _ => plain_cells _ _ _)) (ab_row _ _ (fun _ => plain_cells _ _ _))) (ab_below (Nat.le_refl _) hB)

set_option maxRecDepth 100000 in
set_option maxHeartbeats 2000000 in
theorem AppendSeq (A : Option Addr) (Bs Bn n₁ cap m sz : Nat) (ls : List (List UInt8)) (w : World) (hm : ls.length = m) (hmc : m ≤ cap) (hle : m ≤ 1000) (hz : 1 ≤ sz) (hz' : sz ≤ 1000) (hBs : Boxed w Bs 33 (.slice A m cap)) (hBn : Boxed w Bn 3 (.int .i64 (sz : Int))) (hn : n₁ ≤ w.heap.size) (hR : RdS w n₁ A ls) :
    Calls Try.prog 120 #[.slice none 0 0, .func (.func 121) #[] #[.pointer (some ⟨Bs, 0, none⟩), .pointer (some ⟨Bn, 0, none⟩)]] w (SlEnd w (chV A sz m 0)) := by
  obtain ⟨i0, hi, hz0, hz1, hz2⟩ := info_parts info_strs
  have HM := Lib.hid hm; clear hm
  refine (callsIn_wide (n := 3)).1 ?_
  refine callsIn_of_wp_marks Try.func120 rfl trivial ?_ rfl
  simp only [Try.ntmps120, List.size_toArray, List.length_cons, List.length_nil, Nat.reduceAdd, Nat.reduceSub, Array.replicate_succ, Array.replicate_zero, List.push_toArray, List.append_toArray, List.nil_append, List.cons_append]
  gi_wp2
  have hB0 := Boxed.new w 139 (.slice none 0 0)
  have hw1 : Below w.heap.size w (w.alloc (.cells #[.slice none 0 0] 139)) := (Below.refl _ _).alloc (Nat.le_refl _) _
  refine range_law' (n := 3) (gf := 121) (lb := #[.pointer (some ⟨Bs, 0, none⟩), .pointer (some ⟨Bn, 0, none⟩)]) rfl (enters_of Try.func121 (by kernel_rfl) rfl) (Free := Plain) (fun _ h => h)
    (chunk_gives 2 Bs Bn n₁ cap m sz A ls HM.out hmc hle hz hz' _ (hBs.alloc _) (hBn.alloc _) (by simp; omega) (hR.below (hw1.mono hn))) kpC_t (kpC_b (by simp; omega) (by have := hBs.lt; simp; omega) (by have := hBn.lt; simp; omega)) kpC_r (fun _ => rfl)
    (AppInv w) (fun _ _ _ => False) (appInv_ab w (by simp)) (fun _ => ab_pure _ _ _) ⟨⟨_, hB0, World.ownsRow_nil _ _ _ _⟩, hw1⟩ ?a1 ?assign ?body ?done ?stop
  case assign =>
    intro l x W K hK
    gi_wp2
    exact hK
  case body =>
    rintro l pre post x W hfull ⟨⟨v, hv, hrow⟩, hB⟩
    obtain ⟨A', n', c', rfl⟩ := chV_form A sz m m 0 (by omega) x (by rw [hfull]; simp)
    have hlen := chV_len A sz m m 0 (by omega)
    rw [hfull] at hlen
    simp at hlen
    have hc := hv.cell
    have hw := hB.size
    have hsB := hBs.lt
    have hnB := hBn.lt
    clear hfull
    gi_wp2_with (gi_at_builtin; refine wpListIn_append_own _ rfl _ _ 139 rfl w.heap.size 33 i0 (.slice none 0 0) 1 24 Try.underlying139 hi hz0 hz1 hz2 rfl (by decide) _ _ _ rfl (hrow.alloc _) ⟨W.heap.size, 0, none⟩ 1 1 [.slice A' n' c'] rfl rfl (cell_one_new _ _ _) (by simp [Value.oneCell']) (by unfold maxLen; omega) (by omega) (by simp; omega) ?_; intro v' w1 hown' hgrow _; obtain ⟨g', cap', rfl⟩ := ownsRow_succ hown'; obtain ⟨hv1, hv2, hr2, hk2, hb2⟩ := hv.appended (by decide) hrow hB.size (by omega) hown' hgrow; have hc1 := hv1.cell; have hf1 := hv1.frozen)
    refine ⟨hk2.from _, ⟨hb2.mono hn, fun u hu => (hb2.block Bs hsB).trans hu, fun u hu => (hb2.block Bn hnB).trans hu⟩, ⟨_, hv2, ?_⟩, hB.trans hb2⟩
    rw [List.length_append]
    exact hr2
  case done =>
    rintro D W hD ⟨⟨v, hv, hrow⟩, hB⟩ hK
    have hc := hv.cell
    obtain ⟨Av, cv, rfl, hcv, hrd⟩ := rd_of_own hrow
    gi_wp2
    refine ⟨by simp, .inl ⟨_, _, rfl, run_takeDeferred hK, ?_⟩⟩
    refine ⟨_, results_tmp rfl _ _ _, _, rfl, ownsRow_putObj hrow _ hK rfl, ?_⟩
    exact hB.grown (grownBy_putObj' _ D _) hB.size (fun j e => by cases e; simp at hD; omega)
  case stop =>
    rintro D c pre post W _ _ h _
    exact h.elim

theorem Collect (A : Option Addr) (Bs Bn n₁ cap m sz : Nat) (ls : List (List UInt8)) (w : World) (hm : ls.length = m) (hmc : m ≤ cap) (hle : m ≤ 1000) (hz : 1 ≤ sz) (hz' : sz ≤ 1000) (hBs : Boxed w Bs 33 (.slice A m cap)) (hBn : Boxed w Bn 3 (.int .i64 (sz : Int))) (hn : n₁ ≤ w.heap.size) (hR : RdS w n₁ A ls) :
    Calls Try.prog 116 #[.func (.func 121) #[] #[.pointer (some ⟨Bs, 0, none⟩), .pointer (some ⟨Bn, 0, none⟩)]] w (SlEnd w (chV A sz m 0)) := by
  have HM := Lib.hid hm; clear hm
  go_enter Try.func116, Try.ntmps116
  go_wp2_with fail
  refine (AppendSeq A Bs Bn n₁ cap m sz ls _ HM.out hmc hle hz hz' hBs hBn hn hR).mono ?_
  rintro e w' ⟨v, rfl, hrow, hb⟩
  obtain ⟨Av, cv, rfl, hcv, hrd⟩ := rd_of_own hrow
  have HR := Lib.hid hrow; clear hrow hrd
  go_wp2
  go_ret
  exact ⟨_, rfl, HR.out, hb⟩

/-- How cut ends: the parts, in a row of its own. -/
def CutEnd (w : World) (B : Nat) (ps : List (List (List UInt8))) (e : Ending) (w' : World) : Prop :=
  ∃ v vs, e = .returned v ∧ w'.ownsRow w.heap.size 33 1 v ps.length vs ∧ Parts w' B vs ps ∧ Below w.heap.size w w'

set_option maxHeartbeats 400000 in
theorem Cut (A : Option Addr) (cap m sz B : Nat) (ls : List (List UInt8)) (w : World) (hm : ls.length = m) (hmc : m ≤ cap) (hle : m ≤ 1000) (hz : 1 ≤ sz) (hz' : sz ≤ 1000) (hB : B ≤ w.heap.size) (hR : RdS w B A ls) :
    Calls Try.prog 112 #[.slice A m cap, .int .i64 (sz : Int)] w (CutEnd w B (ch sz ls 0)) := by
  have HM := Lib.hid hm; clear hm
  go_enter Try.func112, Try.ntmps112
  go_wp2_with fail
  refine ((callsIn_wide (n := 0)).1 (chunk_in 0 A m cap sz w hz hz')).mono ?_
  rintro e w' ⟨rfl, rfl⟩
  have hb1 := (Boxed.new w 33 (.slice A m cap)).alloc (.cells #[.int .i64 (sz : Int)] 3)
  have hb2 := Boxed.new (w.alloc (.cells #[.slice A m cap] 33)) 3 (.int .i64 (sz : Int))
  rw [World.size_alloc] at hb2
  have hw2 : Below w.heap.size w ((w.alloc (.cells #[.slice A m cap] 33)).alloc (.cells #[.int .i64 (sz : Int)] 3)) := ((Below.refl _ _).alloc (Nat.le_refl _) _).alloc (by simp) _
  go_wp2_with fail
  refine (Collect A _ _ B cap m sz ls _ HM.out hmc hle hz hz' hb1 hb2 (by simp; omega) (hR.below (hw2.mono hB))).mono ?_
  rintro e w' ⟨v, rfl, hrow, hb⟩
  have hp := parts_ch hR (sz := sz) (by omega) m 0 (by rw [HM.out]; omega)
  rw [HM.out] at hp
  have hlen := hp.1
  rw [hlen] at hrow
  obtain ⟨Av, cv, rfl, hcv, hrd⟩ := rd_of_own hrow
  have hbb := hw2.trans (hb.mono (by simp; omega))
  have HR : Hid (CutEnd w B (ch sz ls 0) (.returned (.slice Av (ch sz ls 0).length cv)) w') := Lib.hid ⟨_, _, rfl, own_mono hrow (by simp; omega), hp.below (hbb.mono hB), hbb⟩
  clear hrow hrd hp hlen hb hcv
  go_wp2
  go_ret
  exact HR.out

set_option maxHeartbeats 400000 in
/-- root answers a number from 1 on, not beyond 1000. -/
theorem Root (n : Nat) (w : World) (hn : n ≤ 1000) : Calls Try.prog 113 #[.int .i64 (n : Int)] w fun e w' => (∃ r : Nat, 1 ≤ r ∧ r ≤ 1000 ∧ e = .returned (.int .i64 (r : Int))) ∧ w = w' := by
  go_enter Try.func113, Try.ntmps113
  go_wp2
  go_loop [3] (fun i => ∃ r : Nat, 1 ≤ r ∧ r ≤ 100 ∧ i = .int .i64 (r : Int)) (fun i => 100 - (intOf i).toNat)
  case atStart => exact ⟨1, by omega, by omega, rfl⟩
  case round =>
    obtain ⟨r, h1, h2, rfl⟩ := hrel
    have hmul : ((r : Int) * (r : Int)) = ((r * r : Nat) : Int) := by simp
    have hb : r * r ≤ 10000 := Nat.mul_le_mul h2 h2
    have hb' : (r : Int) * (r : Int) ≤ 10000 := by omega
    have hb0 : (0 : Int) ≤ (r : Int) * (r : Int) := by omega
    by_cases hlt : (r : Int) * (r : Int) < (n : Int)
    · have hr : r < 100 := by
        rcases Nat.lt_or_ge r 100 with h | h
        · exact h
        · have := Nat.mul_le_mul h h; omega
      clear hmul
      go_wp2
      go_round
      case rel => exact ⟨r + 1, by omega, by omega, by go_num⟩
      case measure => simp [intOf]; omega
    · clear hmul
      go_wp2
      go_ret
      exact ⟨⟨r, h1, by omega, rfl⟩, rfl⟩

end Lc
end Go.Proofs.Ytjhjmfodpnipiaa

namespace Go.Proofs.Ytjhjmfodpnipiaa
open Go.RowKit Go.Shelf
set_option linter.unusedVariables false
namespace Lc
open Tx Rg
attribute [local go_sem] Oper.semAt_some

theorem info_row : (Try.prog.info? 134).map (fun i => (i.zero, i.size, i.bytes)) = some (some (.slice none 0 0), 1, 24) := by kernel_rfl

/-- How table ends. -/
def TabEnd (w : World) (m np : Nat) (last : Value) (ps : List (List (List UInt8))) (zs bs : List (List UInt8)) (e : Ending) (w' : World) : Prop :=
  ∃ g cap tv, e = .returned (.slice (some ⟨g, 0, none⟩) (np + 1) cap) ∧ w'.ownsRow w.heap.size 134 1 (.slice (some ⟨g, 0, none⟩) (np + 1) cap) (np + 1) tv ∧ tv[np]? = some last ∧
    (∀ k, k < np → ∃ v, tv[k]? = some v ∧ w'.ownsRow w.heap.size 3 1 v (m + 1) (rowV ((ps.drop k).flatten ++ zs) bs)) ∧ Below w.heap.size w w'

/-- What the rows so far are: tv at W, from place q on. -/
def TabRows (w : World) (m np : Nat) (T last : Value) (ps : List (List (List UInt8))) (zs bs : List (List UInt8)) (q : Nat) (tv : List Value) (W : World) : Prop :=
  W.ownsRow w.heap.size 134 1 T (np + 1) tv ∧ tv[np]? = some last ∧
      ∀ k, q ≤ k → k < np → ∃ v, tv[k]? = some v ∧ W.ownsRow w.heap.size 3 1 v (m + 1) (rowV ((ps.drop k).flatten ++ zs) bs)
/-- Between two rounds. -/
def TabInv (w : World) (m np : Nat) (bv T last : Value) (ps : List (List (List UInt8))) (zs bs : List (List UInt8)) (pre : List (Nat × Value)) (W : World) : Prop :=
  (Boxed W w.heap.size 33 bv ∧ Boxed W (w.heap.size + 1 + 1) 142 T) ∧ (∃ tv : List Value, TabRows w m np T last ps zs bs (np - pre.length) tv W) ∧ Below w.heap.size w W
theorem tabInv_ab (w : World) (m np : Nat) (bv T last : Value) (ps : List (List (List UInt8))) (zs bs : List (List UInt8)) {B : Nat} (hB : w.heap.size ≤ B) : Ab Plain B (TabInv w m np bv T last ps zs bs) := by
  refine Ab.and (Ab.and (ab_boxed _ (fun _ => plain_cells _ _ _)) (ab_boxed _ (fun _ => plain_cells _ _ _))) (Ab.and (ab_ex fun tv => Ab.and (ab_row _ _ (fun _ => plain_cells _ _ _)) (Ab.and (ab_pure _ _ _) ?_)) (ab_below (Nat.le_refl _) hB))
  intro s W W' row hs hg hr k h1 h2
  obtain ⟨v, h3, h4⟩ := hs k h1 h2
  exact ⟨v, h3, ab_row (Free := Plain) (B := B) (fun _ : Unit => m + 1) (fun _ => rowV ((ps.drop k).flatten ++ zs) bs) (fun _ => plain_cells _ _ _) () W W' row h4 hg hr⟩

theorem rows_ne {W : World} {base base' size size' n n' : Nat} {e e' : TypeId} {v v' : Value} {xs xs' : List Value} (h : W.ownsRow base e size v n xs) (h' : W.ownsRow base' e' size' v' n' xs') (hne : e ≠ e') : v.ownBlock = none ∨ v.ownBlock ≠ v'.ownBlock := by
  rcases h.2 with ⟨rfl, _⟩ | ⟨g, _, cur, rfl, _, hg, _⟩
  · exact .inl rfl
  · right
    rcases h'.2 with ⟨rfl, _⟩ | ⟨g', _, cur', rfl, _, hg', _⟩
    · simp [Value.ownBlock]
    · intro e1
      obtain rfl : g = g' := by simpa [Value.ownBlock] using e1
      rw [hg] at hg'
      simp at hg'
      exact hne hg'.2
theorem grown_of_below {W W' : World} (h : Below W.heap.size W W') (r : Option Nat) : W.grownBy W' r := ⟨h.os, h.tape, h.output, h.size, fun k hk _ => h.block k hk⟩

theorem tab_next {w W W2 : World} {m np k g cap gv cv Bs : Nat} {bv last u : Value} {ps : List (List (List UInt8))} {zs bs : List (List UInt8)} {pre : List (Nat × Value)} {tv : List Value} (hk : k < ps.length) (hn : ps.length = np) (hp : pre.length + k + 1 = np)
    (hI : TabInv w m np bv (.slice (some ⟨g, 0, none⟩) (np + 1) cap) last ps zs bs pre W) (hrow : W.ownsRow w.heap.size 134 1 (.slice (some ⟨g, 0, none⟩) (np + 1) cap) (np + 1) tv) (hl : tv[np]? = some last)
    (hall : ∀ k, np - pre.length ≤ k → k < np → ∃ v, tv[k]? = some v ∧ W.ownsRow w.heap.size 3 1 v (m + 1) (rowV ((ps.drop k).flatten ++ zs) bs))
    (hrv : W2.ownsRow W.heap.size 3 1 (.slice (some ⟨gv, 0, none⟩) (m + 1) cv) (m + 1) (rowV (ps[k] ++ ((ps.drop (k + 1)).flatten ++ zs)) bs)) (hbv : Below W.heap.size W.drew W2) :
    (∀ B, KeepsFrom B W (W2.setCell ⟨g, k, none⟩ (.slice (some ⟨gv, 0, none⟩) (m + 1) cv))) ∧ KpB w.heap.size Bs 139 W (W2.setCell ⟨g, k, none⟩ (.slice (some ⟨gv, 0, none⟩) (m + 1) cv)) ∧
      TabInv w m np bv (.slice (some ⟨g, 0, none⟩) (np + 1) cap) last ps zs bs (pre ++ [(k, u)]) (W2.setCell ⟨g, k, none⟩ (.slice (some ⟨gv, 0, none⟩) (m + 1) cv)) := by
  have hb2 : Below W.heap.size W W2 := ⟨hbv.os, hbv.tape, hbv.output, hbv.size, hbv.block⟩
  have hg1 := grown_of_below hb2 none
  obtain ⟨⟨h3, h4⟩, _, hbel⟩ := hI
  have hrow2 := hrow.kept hg1 (.inr (by simp [Value.ownBlock]))
  obtain ⟨hr3, hg3⟩ := hrow2.stored k (.slice (some ⟨gv, 0, none⟩) (m + 1) cv)
  have hgw := (hrow.lt g rfl).1
  have hsz := hbel.size
  have kb : ∀ {b : Nat} {t : TypeId} {v : Value}, Boxed W b t v → t ≠ 134 → Boxed (W2.setCell ⟨g, k, none⟩ (.slice (some ⟨gv, 0, none⟩) (m + 1) cv)) b t v := fun h ht =>
    (h.kept hg1 (by simp)).kept hg3 (Boxed.not_row (h.kept hg1 (by simp)) ht hrow2)
  refine ⟨fun B => ((KeepsOthers.of_grownBy hg1 (fun j o e _ => by cases e)).trans (KeepsOthers.setCell _ _ _)).from B, ⟨((hb2.mono hsz)).setCell (p := ⟨g, k, none⟩) hgw _, fun v hv => kb hv (by decide)⟩, ⟨kb h3 (by decide), kb h4 (by decide)⟩,
    ⟨_, hr3, ?_, fun k' h1 h2 => ?_⟩, (hbel.trans (hb2.mono hsz)).setCell (p := ⟨g, k, none⟩) hgw _⟩
  · rw [List.getElem?_set_ne (by omega)]; exact hl
  · have h1' : k ≤ k' := by rw [List.length_append] at h1; simp at h1; omega
    by_cases e : k = k'
    · subst e
      refine ⟨_, List.getElem?_set_self (by have := hrow.1; omega), ?_⟩
      have := (own_mono hrv hsz).kept hg3 (rows_ne hrv hrow2 (by decide))
      rw [List.drop_eq_getElem_cons hk, List.flatten_cons, List.append_assoc]
      exact this
    · obtain ⟨v, h5, h6⟩ := hall k' (by omega) h2
      refine ⟨v, by rw [List.getElem?_set_ne e]; exact h5, ?_⟩
      have h7 := h6.kept hg1 (by cases v.ownBlock <;> simp)
      exact h7.kept hg3 (rows_ne h7 hrow2 (by decide))

set_option maxRecDepth 100000 in
set_option maxHeartbeats 2000000 in
theorem table (A A' Ar : Option Addr) (c c' cr np m B : Nat) (vs : List Value) (ps : List (List (List UInt8))) (zs bs : List (List UInt8)) (w : World) (hnp : ps.length = np) (hm : bs.length = m) (hlp : np ≤ 1000) (hlm : m ≤ 1000) (hle : ∀ p ∈ ps, p.length ≤ 1000) (hB : B ≤ w.heap.size)
    (hV : Rd w B A vs) (hP : Parts w B vs ps) (hR' : RdS w B A' bs) (hRr : Rd w B Ar (rowV zs bs)) :
    Calls Try.prog 114 #[.slice A np c, .slice A' m c', .slice Ar (m + 1) cr] w (TabEnd w m np (.slice Ar (m + 1) cr) ps zs bs) := by
  obtain ⟨j0, hj, hy0, hy1, hy2⟩ := info_parts info_row
  have HM := Lib.hid hm; clear hm
  have HN := Lib.hid hnp; clear hnp
  have hmk : ∀ W : World, (Instr.makeSlice 142 (.int .i64 ((np : Int) + 1)) (.int .i64 ((np : Int) + 1))).run Try.prog W = .ok (.slice (some ⟨W.heap.size, 0, none⟩) (np + 1) (np + 1)) (W.alloc (.cells (madeCells #[.slice none 0 0] (np + 1)) 134)) := by
    intro W
    have := run_makeSlice (P := Try.prog) W 142 134 j0 (.slice none 0 0) Try.underlying142 hj hy0 .i64 .i64 ((np : Int) + 1) ((np : Int) + 1) (by omega) (by omega) (by rw [hy1]; omega) (by rw [hy2]; omega) (by omega)
    rw [hy1, Nat.mul_one, show ((np : Int) + 1).toNat = np + 1 by omega] at this
    exact this
  obtain ⟨cz, hcz⟩ : ∃ cz, madeCells #[.slice none 0 0] (np + 1) = cz := ⟨_, rfl⟩
  have hz1 : cz[np]? = some (.slice none 0 0) := by rw [← hcz]; simp [madeCells, Nat.mod_one]
  have HZ : Hid (cz.size = np + 1) := Lib.hid (by rw [← hcz, size_madeCells])
  simp only [hcz] at hmk
  clear hcz
  refine (callsIn_wide (n := 3)).1 ?_
  refine callsIn_of_wp_marks Try.func114 rfl trivial ?_ rfl
  simp only [Try.ntmps114, List.size_toArray, List.length_cons, List.length_nil, Nat.reduceAdd, Nat.reduceSub, Array.replicate_succ, Array.replicate_zero, List.push_toArray, List.append_toArray, List.nil_append, List.cons_append]
  gi_wp2_with fail
  refine ⟨trivial, ?_⟩
  refine (backP_in 2 _ _ _ _).mono ?_
  rintro e w' ⟨rfl, rfl⟩
  gi_wp2
  obtain ⟨tz, htz⟩ : ∃ tz, cz.setIfInBounds np (.slice Ar (m + 1) cr) = tz := ⟨_, rfl⟩
  have hts : tz.size = np + 1 := by rw [← htz]; simpa using HZ.out
  have htn : tz.toList[np]? = some (.slice Ar (m + 1) cr) := by rw [← htz]; simp [HZ.out]
  rw [htz]
  clear htz hz1 HZ
  have hb0 := ((Boxed.new w 33 (.slice A' m c')).alloc (.cells tz 134))
  have hrw := World.ownsRow_lit (base := w.heap.size) (e := 134) (size := 1) (w.alloc (.cells #[.slice A' m c'] 33)) tz (np + 1) (by simp) (by unfold maxLen; omega) (by omega)
  have hbt := Boxed.new ((w.alloc (.cells #[.slice A' m c'] 33)).alloc (.cells tz 134)) 142 (.slice (some ⟨w.heap.size + 1, 0, none⟩) (np + 1) (np + 1))
  have hbs := Boxed.new (((w.alloc (.cells #[.slice A' m c'] 33)).alloc (.cells tz 134)).alloc (.cells #[.slice (some ⟨w.heap.size + 1, 0, none⟩) (np + 1) (np + 1)] 142)) 139 (.slice A np c)
  simp only [World.size_alloc] at hrw hbt hbs
  have hw4 : Below w.heap.size w ((((w.alloc (.cells #[.slice A' m c'] 33)).alloc (.cells tz 134)).alloc (.cells #[.slice (some ⟨w.heap.size + 1, 0, none⟩) (np + 1) (np + 1)] 142)).alloc (.cells #[.slice A np c] 139)) :=
    ((((Below.refl _ _).alloc (Nat.le_refl _) _).alloc (by simp) _).alloc (by simp; omega) _).alloc (by simp; omega) _
  have hvl : vs.length = np := by rw [hP.1, HN.out]
  have HV := Lib.hid hvl; clear hvl
  refine range_law' (n := 3) (gf := 122) (lb := #[.pointer (some ⟨w.heap.size + 1 + 1 + 1, 0, none⟩)]) rfl (enters_of Try.func122 (by kernel_rfl) rfl) (Free := Plain) (fun _ h => h)
    (backP_gives 2 (w.heap.size + 1 + 1 + 1) w.heap.size c np A vs HV.out (by omega) _ hbs (by simp; omega) ((hV.up hB).below hw4)) kpB_t (kpB_b (by simp; omega) (by simp)) kpB_r (fun _ => rfl)
    (TabInv w m np (.slice A' m c') (.slice (some ⟨w.heap.size + 1, 0, none⟩) (np + 1) (np + 1)) (.slice Ar (m + 1) cr) ps zs bs) (fun _ _ _ => False) (tabInv_ab _ _ _ _ _ _ _ _ _ (by simp; omega)) (fun _ => ab_pure _ _ _) ?h0 ?a1 ?assign ?body ?done ?stop
  case h0 =>
    exact ⟨⟨(hb0.alloc _).alloc _, hbt.alloc _⟩, ⟨tz.toList, (hrw.alloc _).alloc _, htn, fun k h1 h2 => by simp at h1; omega⟩, hw4⟩
  case assign =>
    intro l x W K hK
    gi_wp2
    exact hK
  case body =>
    rintro l pre post ⟨k, v⟩ W hfull hI
    obtain ⟨hk, hv, hp⟩ := bk_split hfull
    dsimp only at hk hv hp
    clear hfull
    rw [HV.out] at hp
    have hkn : k < np := by rw [HV.out] at hk; exact hk
    have hkp : k < ps.length := by rw [HN.out]; exact hkn
    obtain ⟨Ap, cp, hpe, _, hpr⟩ := hP.at_ hk hkp
    obtain rfl : v = .slice Ap ps[k].length cp := by rw [← hv]; exact hpe
    clear hv hpe hk
    have hlp' := hle _ (List.getElem_mem hkp)
    obtain ⟨⟨h3, h4⟩, ⟨tv, hrow, hl, hall⟩, hgr⟩ := id hI
    have hnext : ∃ Ark crk, tv[k + 1]? = some (.slice Ark (m + 1) crk) ∧ Rd W W.heap.size Ark (rowV ((ps.drop (k + 1)).flatten ++ zs) bs) := by
      by_cases e : k + 1 = np
      · refine ⟨Ar, cr, by rw [e]; exact hl, ?_⟩
        rw [List.drop_of_length_le (by rw [HN.out]; omega), List.flatten_nil, List.nil_append]
        exact (hRr.below (hgr.mono hB)).up (by have := hgr.size; omega)
      · obtain ⟨v, h1, h2⟩ := hall (k + 1) (by omega) (by omega)
        obtain ⟨Av, cv, rfl, _, hrd⟩ := rd_of_own h2
        exact ⟨Av, cv, h1, hrd⟩
    obtain ⟨Ark, crk, hk1, hrd1⟩ := hnext
    have hold : ∃ old, tv[k]? = some old := ⟨_, List.getElem?_eq_getElem (by have := hrow.1; omega)⟩
    obtain ⟨old, hold⟩ := hold
    have hc3 := h3.cell
    have hc4 := h4.cell
    have hck := hrow.cellAt k (by omega)
    have hck1 := hrow.cellAt (k + 1) (by omega)
    rw [hold] at hck
    rw [hk1] at hck1
    have hfk := hrow.frozenAt k
    have hp2 : Rd W W.heap.size Ap (ps[k].map strV) := (Rd.below hpr (hgr.mono hB)).up (by have := hgr.size; omega)
    have hp3 : RdS W W.heap.size A' bs := (hR'.below (hgr.mono hB)).up (by have := hgr.size; omega)
    have HI := Lib.hid (And.intro hI (And.intro hrow (And.intro hold (And.intro hl hall))))
    clear hI hrow hold hl hall hk1 h3 h4
    have HP := Lib.hid hp; clear hp
    have hkw : IntKind.i64.wrap ((k : Int) + 1) = (k : Int) + 1 := IntWalk.i64_in _ (by omega)
    gi_wp2
    have i0 : (0 : Int) ≤ (k : Int) + 1 := by omega
    have i1 : ((k : Int) + 1).toNat = k + 1 := by omega
    have i2 : (k : Int) + 1 < (np : Int) + 1 := by omega
    have i3 : (k : Int) < (np : Int) + 1 := by omega
    refine round_held (S := fun X : World => X.cell? ⟨w.heap.size, 0, none⟩ = some (.slice A' m c') ∧ X.cell? ⟨w.heap.size + 1 + 1, 0, none⟩ = some (.slice (some ⟨w.heap.size + 1, 0, none⟩) (np + 1) (np + 1)) ∧ X.cell? ⟨w.heap.size + 1, k + 1, none⟩ = some (.slice Ark (m + 1) crk) ∧ (∃ u, X.cell? ⟨w.heap.size + 1, k, none⟩ = some u) ∧ X.frozen? ⟨w.heap.size + 1, k, none⟩ = false) (by kernel_rfl) (by kernel_rfl) ?hq ?hS (fun hS0 => ?_)
    case hq => rintro ⟨_, _, h⟩; exact h
    case hS => exact ⟨hc3, hc4, hck1, ⟨_, hck⟩, hfk⟩
    refine wpAnyH_take (i := 0) (v := ?_) rfl (by kernel_rfl) (by kernel_rfl) (by kernel_rfl) (fun _ _ _ h => h) (Or.inl ⟨by rfl, ?_⟩) hS0 ?_
    rotate_left
    · intro X hX
      obtain ⟨hX1, hX2, hX3, hX4, hX5⟩ := hX
      go_simp
      try with_reducible rfl
    simp only [Act.put]
    refine wpAnyH_take (i := 1) (v := ?_) rfl (by kernel_rfl) (by kernel_rfl) (by kernel_rfl) (fun _ _ _ h => h) (Or.inl ⟨by rfl, ?_⟩) hS0 ?_
    rotate_left
    · intro X hX
      obtain ⟨hX1, hX2, hX3, hX4, hX5⟩ := hX
      go_simp
      try with_reducible rfl
    simp only [Act.put]
    refine wpAnyH_take (i := 2) (v := ?_) rfl (by kernel_rfl) (by kernel_rfl) (by kernel_rfl) (fun _ _ _ h => h) (Or.inl ⟨by rfl, ?_⟩) hS0 ?_
    rotate_left
    · intro X hX
      obtain ⟨hX1, hX2, hX3, hX4, hX5⟩ := hX
      go_simp
      try with_reducible rfl
    simp only [Act.put]
    refine wpAnyH_take (i := 3) (v := ?_) rfl (by kernel_rfl) (by kernel_rfl) (by kernel_rfl) (fun _ _ _ h => h) (Or.inl ⟨by rfl, ?_⟩) hS0 ?_
    rotate_left
    · intro X hX
      obtain ⟨hX1, hX2, hX3, hX4, hX5⟩ := hX
      go_simp
      try with_reducible rfl
    simp only [Act.put]
    refine wpAnyH_take (i := 4) (v := ?_) rfl (by kernel_rfl) (by kernel_rfl) (by kernel_rfl) (fun _ _ _ h => h) (Or.inl ⟨by rfl, ?_⟩) hS0 ?_
    rotate_left
    · intro X hX
      obtain ⟨hX1, hX2, hX3, hX4, hX5⟩ := hX
      go_simp
      try with_reducible rfl
    simp only [Act.put]
    refine wpAnyH_take (i := 5) (v := ?_) rfl (by kernel_rfl) (by kernel_rfl) (by kernel_rfl) (fun _ _ _ h => h) (Or.inl ⟨by rfl, ?_⟩) hS0 ?_
    rotate_left
    · intro X hX
      obtain ⟨hX1, hX2, hX3, hX4, hX5⟩ := hX
      go_simp
      try with_reducible rfl
    simp only [Act.put]
    refine wpAnyH_take (i := 6) (v := ?_) rfl (by kernel_rfl) (by kernel_rfl) (by kernel_rfl) (fun _ _ _ h => h) (Or.inl ⟨by rfl, ?_⟩) hS0 ?_
    rotate_left
    · intro X hX
      obtain ⟨hX1, hX2, hX3, hX4, hX5⟩ := hX
      go_simp
      try with_reducible rfl
    simp only [Act.put]
    refine wpAnyH_take (i := 7) (v := ?_) rfl (by kernel_rfl) (by kernel_rfl) (by kernel_rfl) (fun _ _ _ h => h) (Or.inl ⟨by rfl, ?_⟩) hS0 ?_
    rotate_left
    · intro X hX
      obtain ⟨hX1, hX2, hX3, hX4, hX5⟩ := hX
      go_simp
      try with_reducible rfl
    simp only [Act.put]
    refine wpAnyH_take (i := 8) (v := ?_) rfl (by kernel_rfl) (by kernel_rfl) (by kernel_rfl) (fun _ _ _ h => h) (Or.inl ⟨by rfl, ?_⟩) hS0 ?_
    rotate_left
    · intro X hX
      obtain ⟨hX1, hX2, hX3, hX4, hX5⟩ := hX
      go_simp
      try with_reducible rfl
    simp only [Act.put]
    refine wpAnyH_ready (rs := [9]) (by kernel_rfl) (by simp) ?_
    refine AllReadyH.cons rfl (fun K hK => ?_) AllReadyH.nil
    go_simp
    refine (left Ap A' Ark cp c' crk ps[k].length m W.heap.size ps[k] ((ps.drop (k + 1)).flatten ++ zs) bs W.drew rfl HM.out hlp' hlm (Nat.le_refl _) hp2 hp3 hrd1).mono ?_
    rintro e W2 ⟨v, rfl, hrv, hbv⟩
    obtain ⟨gv, cv, rfl⟩ := ownsRow_succ hrv
    have l3 := World.block_lt_of_cell? W _ hc3
    have l4 := World.block_lt_of_cell? W _ hc4
    have lk := World.block_lt_of_cell? W _ hck
    have hS1 : W2.cell? ⟨w.heap.size, 0, none⟩ = some (.slice A' m c') ∧ W2.cell? ⟨w.heap.size + 1 + 1, 0, none⟩ = some (.slice (some ⟨w.heap.size + 1, 0, none⟩) (np + 1) (np + 1)) ∧ W2.cell? ⟨w.heap.size + 1, k + 1, none⟩ = some (.slice Ark (m + 1) crk) ∧ (∃ u, W2.cell? ⟨w.heap.size + 1, k, none⟩ = some u) ∧ W2.frozen? ⟨w.heap.size + 1, k, none⟩ = false :=
      ⟨(hbv.cell (p := ⟨w.heap.size, 0, none⟩) l3).trans hc3, (hbv.cell (p := ⟨w.heap.size + 1 + 1, 0, none⟩) l4).trans hc4, (hbv.cell (p := ⟨w.heap.size + 1, k + 1, none⟩) lk).trans hck1, ⟨_, (hbv.cell (p := ⟨w.heap.size + 1, k, none⟩) lk).trans hck⟩, (hbv.frozen (p := ⟨w.heap.size + 1, k, none⟩) lk).trans hfk⟩
    refine hK.out _ _ hS1 (fun _ => ?_)
    clear hK K hS0
    have hS0 := hS1
    refine wpAnyH_take (i := 10) (v := ?_) rfl (by kernel_rfl) (by kernel_rfl) (by kernel_rfl) (fun _ _ _ h => h) (Or.inl ⟨by rfl, ?_⟩) hS0 ?_
    rotate_left
    · intro X hX
      obtain ⟨hX1, hX2, hX3, hX4, hX5⟩ := hX
      go_simp
      try with_reducible rfl
    simp only [Act.put]
    refine wpAnyH_ready (rs := [11]) (by kernel_rfl) (by simp) ?_
    refine AllReadyH.cons rfl (fun K hK => ?_) AllReadyH.nil
    obtain ⟨u1, u2, u3, ⟨u, u4⟩, u5⟩ := hS1
    go_simp
    refine hK.out _ _ ⟨?_, ?_, ?_, ⟨_, World.cell?_setCell_same' _ _ _ (by rw [u4]; rfl)⟩, by rw [World.frozen?_setCell]; exact u5⟩ (fun _ => wpAnyH_done (by kernel_rfl) ?_ _)
    · rw [World.cell?_setCell_far _ _ _ _ (by simp)]; exact u1
    · rw [World.cell?_setCell_far _ _ _ _ (by simp)]; exact u2
    · rw [World.cell?_setCell_other _ _ _ _ (by simp)]; exact u3
    clear hK K
    have hend := tab_next (Bs := w.heap.size + 1 + 1 + 1) (u := .slice Ap ps[k].length cp) hkp HN.out HP.out HI.out.1 HI.out.2.1 HI.out.2.2.2.1 HI.out.2.2.2.2 hrv hbv
    gi_wp2
    exact ⟨hend.1 _, hend.2⟩
  case done =>
    rintro D W hD ⟨⟨_, h4⟩, ⟨tv, hrow, hl, hall⟩, hgr⟩ hK
    have hc := h4.cell
    gi_wp2
    refine ⟨by simp, .inl ⟨_, _, rfl, run_takeDeferred hK, ?_⟩⟩
    refine ⟨_, results_tmp rfl _ _ _, _, _, tv, rfl, ownsRow_putObj hrow (.deferred none) hK rfl, hl, fun k hk => ?_, ?_⟩
    · obtain ⟨v, h1, h2⟩ := hall k (by rw [bk_length, HV.out]; omega) hk
      exact ⟨v, h1, ownsRow_putObj h2 (.deferred none) hK rfl⟩
    · exact hgr.grown (grownBy_putObj' _ D _) hgr.size (fun j e => by cases e; simp at hD; omega)
  case stop =>
    rintro D c pre post W _ _ h _
    exact h.elim

end Lc
end Go.Proofs.Ytjhjmfodpnipiaa

namespace Go.Proofs.Ytjhjmfodpnipiaa
open Go.RowKit Go.Shelf
set_option linter.unusedVariables false
namespace Lc
open Tx Rg
attribute [local go_sem] Oper.semAt_some

/-- The address leads to the cells xs, in a block that K says is kept; or there are none. -/
def Held (K : Nat → TypeId → Prop) (W : World) (A : Option Addr) (xs : List Value) : Prop :=
  xs = [] ∨ ∃ a c t f, A = some a ∧ W.heap[a.block]? = some (.cells c t f) ∧ K a.block t ∧ ∀ j u, xs[j]? = some u → W.cell? (a.add j) = some u
/-- What lies below n₁ is kept, and each block of cells that K says so. -/
def KpK (n₁ : Nat) (K : Nat → TypeId → Prop) (W W' : World) : Prop := Below n₁ W W' ∧ ∀ k c t f, W.heap[k]? = some (.cells c t f) → K k t → W'.heap[k]? = some (.cells c t f)

section
variable {K : Nat → TypeId → Prop} {n₁ : Nat} {W W' : World}
theorem kpK_t {A B C : World} (h : KpK n₁ K A B) (k : KpK n₁ K B C) : KpK n₁ K A C := ⟨h.1.trans k.1, fun i c t f h1 h2 => k.2 i c t f (h.2 i c t f h1 h2) h2⟩
theorem kpK_r (W : World) : KpK n₁ K W W := ⟨Below.refl _ _, fun _ _ _ _ h _ => h⟩
theorem kpK_b {l : Nat} (hn : n₁ ≤ l) (W : World) (o o' : Obj) (h : W.heap[l]? = some o) (hc : o.isCells = false) : KpK n₁ K W (W.putObj l o') :=
  ⟨(Below.refl n₁ W).grown (grownBy_putObj' W l o') (by have := (Array.getElem?_eq_some_iff.1 h).1; omega) (fun k e => by cases e; exact hn), fun k c t f h1 _ => by
    by_cases e : k = l
    · subst e; rw [h] at h1; cases h1; cases hc
    · exact (World.putObj_heap_other e).trans h1⟩
theorem kpK_new (hn : n₁ ≤ W.heap.size) (h : Below W.heap.size W W') : KpK n₁ K W W' := ⟨h.mono hn, fun k c t f h1 _ => (h.block k (Array.getElem?_eq_some_iff.1 h1).1).trans h1⟩
theorem kpK_drew (hn : n₁ ≤ W.heap.size) (h : Below W.heap.size W.drew W') : KpK n₁ K W W' := kpK_new hn ⟨h.os, h.tape, h.output, h.size, h.block⟩
theorem Held.kp {A : Option Addr} {xs : List Value} (h : Held K W A xs) (hk : KpK n₁ K W W') : Held K W' A xs := by
  rcases h with h | ⟨a, c, t, f, h1, h2, h3, h4⟩
  · exact .inl h
  · have h5 := hk.2 _ c t f h2 h3
    exact .inr ⟨a, c, t, f, h1, h5, h3, fun j u hu => (World.cell?_of_block (w := W) (a := a.add j) (by rw [add_block]; exact h5.trans h2.symm)).trans (h4 j u hu)⟩
theorem Held.rd {A : Option Addr} {xs : List Value} (h : Held K W A xs) : Rd W W.heap.size A xs := by
  rcases h with h | ⟨a, c, t, f, h1, h2, h3, h4⟩
  · exact .inl h
  · exact .inr ⟨a, h1, (Array.getElem?_eq_some_iff.1 h2).1, h4⟩
theorem held_own {base : Nat} {e : TypeId} {g n cap : Nat} {xs : List Value} (h : W.ownsRow base e 1 (.slice (some ⟨g, 0, none⟩) n cap) n xs) (hK : ∀ k, base ≤ k → K k e) : Held K W (some ⟨g, 0, none⟩) xs := by
  rcases h.2 with ⟨h', _⟩ | ⟨g', cap', cur, h', hb, hg, hc, _, hcs, ht⟩
  · cases h'
  · simp only [Value.slice.injEq, Option.some.injEq, Addr.mk.injEq, and_true, true_and] at h'
    obtain ⟨rfl, rfl⟩ := h'
    exact .inr ⟨_, cur, e, (0, 0), rfl, hg, hK _ hb, h.cells rfl⟩
theorem held_own' {base : Nat} {e : TypeId} {v : Value} {n : Nat} {xs : List Value} (h : W.ownsRow base e 1 v n xs) (hK : ∀ k, base ≤ k → K k e) : ∃ A c, v = .slice A n c ∧ n ≤ c ∧ Held K W A xs := by
  rcases h.2 with ⟨rfl, rfl⟩ | ⟨g, cap, cur, rfl, hb, hg, hc, _⟩
  · exact ⟨none, 0, rfl, Nat.le_refl _, .inl (List.eq_nil_of_length_eq_zero (by simpa using h.1))⟩
  · exact ⟨_, cap, rfl, hc, held_own h hK⟩
theorem box_kp {b : Nat} {t : TypeId} {v : Value} (h : Boxed W b t v) (hK : K b t) (hk : KpK n₁ K W W') : Boxed W' b t v := hk.2 _ _ _ _ h hK

/-- A value that reads as a row. -/
def RowH (K : Nat → TypeId → Prop) (W : World) (u : Value) (xs : List Value) : Prop := ∃ A c, u = .slice A xs.length c ∧ Held K W A xs
theorem RowH.kp {u : Value} {xs : List Value} (h : RowH K W u xs) (hk : KpK n₁ K W W') : RowH K W' u xs := let ⟨A, c, e, h⟩ := h; ⟨A, c, e, h.kp hk⟩
/-- A table: rows f 0 to f np. -/
def TabOk (K : Nat → TypeId → Prop) (W : World) (g np : Nat) (f : Nat → List Value) : Prop := ∃ tv : List Value, Held K W (some ⟨g, 0, none⟩) tv ∧ ∀ k, k ≤ np → ∃ u, tv[k]? = some u ∧ RowH K W u (f k)
theorem TabOk.kp {g np : Nat} {f : Nat → List Value} (h : TabOk K W g np f) (hk : KpK n₁ K W W') : TabOk K W' g np f := let ⟨tv, h1, h2⟩ := h; ⟨tv, h1.kp hk, fun k h => let ⟨u, h3, h4⟩ := h2 k h; ⟨u, h3, h4.kp hk⟩⟩
theorem TabOk.at_ {g np : Nat} {f : Nat → List Value} (h : TabOk K W g np f) {k : Nat} (hk : k ≤ np) : ∃ u, W.cell? ⟨g, k, none⟩ = some u ∧ RowH K W u (f k) := by
  obtain ⟨tv, h1, h2⟩ := h
  obtain ⟨u, h3, h4⟩ := h2 k hk
  refine ⟨u, ?_, h4⟩
  rcases h1 with rfl | ⟨a, c, t, fz, e, _, _, h5⟩
  · simp at h3
  · injection e with e; subst e
    have := h5 k u h3
    have e1 : (⟨g, 0, none⟩ : Addr).add k = ⟨g, k, none⟩ := by unfold Addr.add; split <;> simp_all
    rwa [e1] at this
end

theorem grown_of_drew {W W' : World} (h : Below W.heap.size W.drew W') : W.grownBy W' none := ⟨h.os, h.tape, h.output, h.size, fun k hk _ => h.block k hk⟩
theorem tabOk_of_end {K : Nat → TypeId → Prop} {w W : World} {m np g cap : Nat} {last : Value} {ps : List (List (List UInt8))} {zs bs : List (List UInt8)} {tv : List Value} (hm : bs.length = m) (hnp : ps.length = np)
    (hrow : W.ownsRow w.heap.size 134 1 (.slice (some ⟨g, 0, none⟩) (np + 1) cap) (np + 1) tv) (hl : tv[np]? = some last)
    (hall : ∀ k, k < np → ∃ v, tv[k]? = some v ∧ W.ownsRow w.heap.size 3 1 v (m + 1) (rowV ((ps.drop k).flatten ++ zs) bs)) (hlast : RowH K W last (rowV zs bs)) (hK : ∀ k, w.heap.size ≤ k → K k 134 ∧ K k 3) :
    TabOk K W g np (fun k => rowV ((ps.drop k).flatten ++ zs) bs) := by
  refine ⟨tv, held_own hrow (fun k h => (hK k h).1), fun k hk => ?_⟩
  by_cases e : k = np
  · subst e
    refine ⟨last, hl, ?_⟩
    show RowH K W last (rowV ((ps.drop k).flatten ++ zs) bs)
    rw [List.drop_of_length_le (by omega), List.flatten_nil, List.nil_append]
    exact hlast
  · obtain ⟨v, h1, h2⟩ := hall k (by omega)
    obtain ⟨A, c, rfl, _, h3⟩ := held_own' h2 (fun k h => (hK k h).2)
    exact ⟨_, h1, A, c, by rw [rowV_length, hm], h3⟩

theorem TabOk.congr {K : Nat → TypeId → Prop} {W : World} {g np : Nat} {f f' : Nat → List Value} (h : TabOk K W g np f) (e : ∀ k, k ≤ np → f k = f' k) : TabOk K W g np f' := let ⟨tv, h1, h2⟩ := h; ⟨tv, h1, fun k hk => let ⟨u, h3, h4⟩ := h2 k hk; ⟨u, h3, e k hk ▸ h4⟩⟩
theorem flat_one {α : Type} (l : List α) (i : Nat) : ((l.map fun x => [x]).drop i).flatten = l.drop i := by
  rw [← List.map_drop]
  induction l.drop i with
  | nil => rfl
  | cons x l ih => rw [List.map_cons, List.flatten_cons, ih]; rfl
theorem flat_split {α : Type} (ps : List (List α)) (k : Nat) : (ps.drop k).flatten = ps.flatten.drop ((ps.take k).flatten).length := by
  conv => rhs; rw [← List.take_append_drop k ps, List.flatten_append]
  simp
theorem off_succ {α : Type} {ps : List (List α)} {k : Nat} (h : k < ps.length) : ((ps.take (k + 1)).flatten).length = ((ps.take k).flatten).length + ps[k].length := by
  rw [take_snoc' h, List.flatten_append]; simp
theorem off_le {α : Type} (ps : List (List α)) (k : Nat) : ((ps.take k).flatten).length ≤ ps.flatten.length := by
  conv => rhs; rw [← List.take_append_drop k ps, List.flatten_append]
  simp
theorem near_eq {α : Type} {ps : List (List α)} {k i : Nat} (h : k < ps.length) (hi : i ≤ ps[k].length) : ((ps[k].map fun x => [x]).drop i).flatten ++ (ps.drop (k + 1)).flatten = ps.flatten.drop (((ps.take k).flatten).length + i) := by
  have e : ps.flatten.drop (((ps.take k).flatten).length + i) = (ps.flatten.drop ((ps.take k).flatten).length).drop i := (List.drop_drop ..).symm
  rw [e, ← flat_split, flat_one, List.drop_eq_getElem_cons h, List.flatten_cons, List.drop_append_of_le_length hi]
theorem range_split {n i : Nat} (h : i < n) : ∃ post, List.range n = List.range i ++ i :: post := by
  refine ⟨(List.range n).drop (i + 1), ?_⟩
  conv => lhs; rw [← List.take_append_drop i (List.range n)]
  rw [List.take_range, Nat.min_eq_left (by omega), List.drop_eq_getElem_cons (by simpa using h)]
  simp

theorem ch_len {α : Type} (sz : Nat) (ls : List α) : ∀ (f i : Nat), ls.length - i ≤ f → (ch sz ls i).length ≤ ls.length - i
  | f, i, hf => by
    unfold ch
    split
    · rename_i h
      cases f with
      | zero => omega
      | succ f => have := ch_len sz ls f (i + sz) (by omega); simp only [List.length_cons]; omega
    · simp
theorem len_flatten {α : Type} {ps : List (List α)} {p : List α} (h : p ∈ ps) : p.length ≤ ps.flatten.length := by
  obtain ⟨s, t, rfl⟩ := List.append_of_mem h
  simp; omega

theorem rows_in (n : Nat) (A A' : Option Addr) (l c l' c' : Nat) (w : World) :
    CallsIn Fence.wide n Try.prog 109 #[.slice A l c, .slice A' l' c'] w fun e w' => e = .returned (.func (.func 111) #[] #[.pointer (some ⟨w.heap.size, 0, none⟩), .pointer (some ⟨w.heap.size + 1, 0, none⟩)]) ∧ w' = (w.alloc (.cells #[.slice A l c] 33)).alloc (.cells #[.slice A' l' c'] 33) := by
  refine callsIn_of_wp Try.func109 rfl trivial ?_ rfl
  simp only [Try.ntmps109, List.size_toArray, List.length_cons, List.length_nil, Nat.reduceAdd, Nat.reduceSub, Array.replicate_succ, Array.replicate_zero, List.push_toArray, List.append_toArray, List.nil_append, List.cons_append]
  gi_wp2
  go_ret
  exact ⟨rfl, rfl⟩

/-- What stays while rows is gone through. -/
structure REnv (K : Nat → TypeId → Prop) (n₁ Ba Bb : Nat) (va vb : Value) (A A' : Option Addr) (ls bs : List (List UInt8)) (W : World) : Prop where
  ba : Boxed W Ba 33 va
  bb : Boxed W Bb 33 vb
  ra : RdS W n₁ A ls
  rb : RdS W n₁ A' bs
  lo : n₁ ≤ W.heap.size
theorem REnv.kp {K : Nat → TypeId → Prop} {n₁ Ba Bb : Nat} {va vb : Value} {A A' : Option Addr} {ls bs : List (List UInt8)} {W W' : World} (h : REnv K n₁ Ba Bb va vb A A' ls bs W) (ha : K Ba 33) (hb : K Bb 33) (hk : KpK n₁ K W W') : REnv K n₁ Ba Bb va vb A A' ls bs W' :=
  ⟨box_kp h.ba ha hk, box_kp h.bb hb hk, h.ra.below hk.1, h.rb.below hk.1, Nat.le_trans h.lo hk.1.size⟩
/-- .. with the parts and the rows from each of them on. -/
structure FEnv (K : Nat → TypeId → Prop) (n₁ Ba Bb : Nat) (va vb : Value) (A A' Av : Option Addr) (ls bs : List (List UInt8)) (vs : List Value) (ps : List (List (List UInt8))) (g np : Nat) (W : World) : Prop where
  env : REnv K n₁ Ba Bb va vb A A' ls bs W
  hv : Held K W Av vs
  hp : Parts W n₁ vs ps
  far : TabOk K W g np (fun k => rowV ((ps.drop k).flatten) bs)
theorem FEnv.kp {K : Nat → TypeId → Prop} {n₁ Ba Bb g np : Nat} {va vb : Value} {A A' Av : Option Addr} {ls bs : List (List UInt8)} {vs : List Value} {ps : List (List (List UInt8))} {W W' : World} (h : FEnv K n₁ Ba Bb va vb A A' Av ls bs vs ps g np W) (ha : K Ba 33) (hb : K Bb 33) (hk : KpK n₁ K W W') : FEnv K n₁ Ba Bb va vb A A' Av ls bs vs ps g np W' :=
  ⟨h.env.kp ha hb hk, h.hv.kp hk, h.hp.below hk.1, h.far.kp hk⟩

/-- As which values a place is handed over: the row from it on, and the one from the next place on. -/
def ERow (K : Nat → TypeId → Prop) (ls bs : List (List UInt8)) (i : Nat) (vals : Array Value) (W : World) : Prop :=
  ∃ v1 v2, vals = #[v1, v2] ∧ RowH K W v1 (rowV (ls.drop i) bs) ∧ RowH K W v2 (rowV (ls.drop (i + 1)) bs)

set_option maxRecDepth 100000 in
set_option maxHeartbeats 4000000 in
theorem rows1_in (d l n₁ Ba Bb n m c c' : Nat) (K : Nat → TypeId → Prop) (A A' : Option Addr) (ls bs : List (List UInt8)) (hn : ls.length = n) (hm : bs.length = m) (hnc : n ≤ c) (hln : n ≤ 1000) (hlm : m ≤ 1000) (J Jx : List Nat → World → Prop) (W : World)
    (hKa : K Ba 33) (hKb : K Bb 33) (hKn : ∀ k, W.heap.size ≤ k → K k 134 ∧ K k 3 ∧ K k 33)
    (hJn : ∀ s W W', J s W → W.grownBy W' none → J s W')
    (hY : ∀ pre x post vals W1, List.range n = pre ++ x :: post → J pre W1 → ERow K ls bs x vals W1 → YieldAt Fence.wide (d - 1) Try.prog l vals W1 fun e W' =>
      (e = .returned (.bool true) ∧ J (pre ++ [x]) W' ∧ KpK n₁ K W1 W') ∨ (e = .returned (.bool false) ∧ Jx (pre ++ [x]) W'))
    (hE : REnv K n₁ Ba Bb (.slice A n c) (.slice A' m c') A A' ls bs W) (h0 : J [] W) :
    CallsIn Fence.wide d Try.prog 111 #[.func (.yield l) #[] #[], .pointer (some ⟨Ba, 0, none⟩), .pointer (some ⟨Bb, 0, none⟩)] W fun e W' => (∃ v, e = .returned v) ∧ (J (List.range n) W' ∨ ∃ pre post, List.range n = pre ++ post ∧ Jx pre W') := by
  have HM := Lib.hid hm; clear hm
  have HN := Lib.hid hn; clear hn
  have HKn := Lib.hid hKn; clear hKn
  refine callsIn_of_wp Try.func111 rfl trivial ?_ rfl
  simp only [Try.ntmps111, List.size_toArray, List.length_cons, List.length_nil, Nat.reduceAdd, Nat.reduceSub, Array.replicate_succ, Array.replicate_zero, List.push_toArray, List.append_toArray, List.nil_append, List.cons_append]
  gi_wp2
  have hc1 := hE.ba.cell
  refine wpIn_wide.2 ?_
  refine wp_region_held_drew (S := fun X : World => X.cell? ⟨Ba, 0, none⟩ = some (.slice A n c)) (by kernel_rfl) hc1 (fun hS0 => ?_)
  refine wpAnyH_take (i := 0) (v := ?_) rfl (by kernel_rfl) (by kernel_rfl) (by kernel_rfl) (fun _ _ _ h => h) (Or.inl ⟨by rfl, ?_⟩) hS0 ?_
  rotate_left
  · intro X hX
    obtain hX1 := hX
    go_simp
    try with_reducible rfl
  simp only [Act.put]
  refine wpAnyH_take (i := 1) (v := ?_) rfl (by kernel_rfl) (by kernel_rfl) (by kernel_rfl) (fun _ _ _ h => h) (Or.inl ⟨by rfl, ?_⟩) hS0 ?_
  rotate_left
  · intro X hX
    obtain hX1 := hX
    go_simp
    try with_reducible rfl
  simp only [Act.put]
  refine wpAnyH_take (i := 2) (v := ?_) rfl (by kernel_rfl) (by kernel_rfl) (by kernel_rfl) (fun _ _ _ h => h) (Or.inl ⟨by rfl, ?_⟩) hS0 ?_
  rotate_left
  · intro X hX
    obtain hX1 := hX
    go_simp
    try with_reducible rfl
  simp only [Act.put]
  refine wpAnyH_ready (rs := [3]) (by kernel_rfl) (by simp) ?_
  refine AllReadyH.cons rfl (fun K' hK' => ?_) AllReadyH.nil
  go_simp
  refine (Root n W.drew hln).mono ?_
  rintro e w' ⟨⟨r, hr1, hr2, rfl⟩, rfl⟩
  refine hK'.out _ _ hS0 (fun _ => ?_)
  clear hK' K'
  refine wpAnyH_ready (rs := [4]) (by kernel_rfl) (by simp) ?_
  refine AllReadyH.cons rfl (fun K' hK' => ?_) AllReadyH.nil
  go_simp
  refine (Cut A c n r n₁ ls W.drew HN.out hnc hln hr1 hr2 hE.lo hE.ra).mono ?_
  rintro e W1 ⟨v, vs, rfl, hrow1, hparts, hb1⟩
  obtain ⟨Av, cv, rfl, hcv, hheld⟩ := held_own' (K := K) hrow1 (fun k h => (HKn.out k h).2.2)
  have hk1 : KpK n₁ K W W1 := kpK_drew hE.lo hb1
  have hE1 := hE.kp hKa hKb hk1
  have hs1 : W.heap.size ≤ W1.heap.size := hk1.1.size
  have hJ1 : J [] W1 := hJn _ _ _ h0 (grown_of_drew hb1)
  refine hK'.out _ _ hE1.ba.cell (fun hS0 => ?_)
  clear hK' K'
  refine wpAnyH_take (i := 5) (v := ?_) rfl (by kernel_rfl) (by kernel_rfl) (by kernel_rfl) (fun _ _ _ h => h) (Or.inl ⟨by rfl, ?_⟩) hS0 ?_
  rotate_left
  · intro X hX
    obtain hX1 := hX
    go_simp
    try with_reducible rfl
  simp only [Act.put]
  refine wpAnyH_done (by kernel_rfl) ?_ _
  simp only [List.getElem_toArray, List.getElem_cons_succ, List.getElem_cons_zero, List.setIfInBounds_toArray, List.set_cons_succ, List.set_cons_zero]
  clear hS0 hrow1 hc1 hE h0 hb1 hk1
  have hflat : (ch r ls 0).flatten = ls := by rw [ch_join (by omega) ls n 0 (by rw [HN.out]; omega)]; rfl
  have hnps := ch_len r ls n 0 (by rw [HN.out]; omega)
  generalize hps : ch r ls 0 = ps at *
  clear hps
  rw [HN.out] at hnps
  obtain ⟨np, hnp⟩ : ∃ np, ps.length = np := ⟨_, rfl⟩
  rw [hnp] at hnps ⊢
  have HNP := Lib.hid hnp; clear hnp
  have HF := Lib.hid hflat; clear hflat
  have hle : ∀ p ∈ ps, p.length ≤ 1000 := fun p hp => by have := len_flatten hp; rw [HF.out, HN.out] at this; omega
  gi_wp2
  have hc2 := hE1.bb.cell
  refine wpIn_wide.2 ?_
  refine wp_region_held_drew (S := fun X : World => X.cell? ⟨Bb, 0, none⟩ = some (.slice A' m c')) (by kernel_rfl) hc2 (fun hS0 => ?_)
  refine wpAnyH_take (i := 0) (v := ?_) rfl (by kernel_rfl) (by kernel_rfl) (by kernel_rfl) (fun _ _ _ h => h) (Or.inl ⟨by rfl, ?_⟩) hS0 ?_
  rotate_left
  · intro X hX
    obtain hX1 := hX
    go_simp
    try with_reducible rfl
  simp only [Act.put]
  refine wpAnyH_take (i := 1) (v := ?_) rfl (by kernel_rfl) (by kernel_rfl) (by kernel_rfl) (fun _ _ _ h => h) (Or.inl ⟨by rfl, ?_⟩) hS0 ?_
  rotate_left
  · intro X hX
    obtain hX1 := hX
    go_simp
    try with_reducible rfl
  simp only [Act.put]
  refine wpAnyH_take (i := 2) (v := ?_) rfl (by kernel_rfl) (by kernel_rfl) (by kernel_rfl) (fun _ _ _ h => h) (Or.inl ⟨by rfl, ?_⟩) hS0 ?_
  rotate_left
  · intro X hX
    obtain hX1 := hX
    go_simp
    try with_reducible rfl
  simp only [Act.put]
  refine wpAnyH_ready (rs := [3]) (by kernel_rfl) (by simp) ?_
  refine AllReadyH.cons rfl (fun K' hK' => ?_) AllReadyH.nil
  go_simp
  refine (None A' c' m bs W1.drew HM.out hlm).mono ?_
  rintro e W2 ⟨v, rfl, hrow2, hb2⟩
  obtain ⟨g0, c0, rfl⟩ := ownsRow_succ hrow2
  have hk2 : KpK n₁ K W1 W2 := kpK_drew hE1.lo hb2
  have hE2 := hE1.kp hKa hKb hk2
  have hs2 : W1.heap.size ≤ W2.heap.size := hk2.1.size
  have hJ2 : J [] W2 := hJn _ _ _ hJ1 (grown_of_drew hb2)
  have hlast := held_own (K := K) hrow2 (fun k h => (HKn.out k (Nat.le_trans hs1 h)).2.1)
  refine hK'.out _ _ hE2.bb.cell (fun hS0 => ?_)
  clear hK' K'
  refine wpAnyH_ready (rs := [4]) (by kernel_rfl) (by simp) ?_
  refine AllReadyH.cons rfl (fun K' hK' => ?_) AllReadyH.nil
  go_simp
  refine (table Av A' (some ⟨g0, 0, none⟩) cv c' c0 np m W2.heap.size vs ps [] bs W2 HNP.out HM.out (by omega) hlm hle (Nat.le_refl _) (hheld.kp hk2).rd ((hparts.below hk2.1).up hE2.lo) (hE2.rb.up hE2.lo) hlast.rd).mono ?_
  rintro e W3 ⟨g, cap, tv, rfl, hrow3, hl3, hall3, hb3⟩
  have hk3 : KpK n₁ K W2 W3 := kpK_new hE2.lo hb3
  have hE3 := hE2.kp hKa hKb hk3
  have hs3 : W2.heap.size ≤ W3.heap.size := hk3.1.size
  have hJ3 : J [] W3 := hJn _ _ _ hJ2 (grown_of_below hb3 none)
  have hfar := tabOk_of_end (K := K) HM.out HNP.out hrow3 hl3 hall3 ⟨_, _, by rw [rowV_length, HM.out], hlast.kp hk3⟩ (fun k h => ⟨(HKn.out k (by omega)).1, (HKn.out k (by omega)).2.1⟩)
  simp only [List.append_nil] at hfar
  have hFE : FEnv K n₁ Ba Bb (.slice A n c) (.slice A' m c') A A' Av ls bs vs ps g np W3 := ⟨hE3, (hheld.kp hk2).kp hk3, (hparts.below hk2.1).below hk3.1, hfar⟩
  refine hK'.out _ _ hE3.bb.cell (fun hS0 => ?_)
  clear hK' K'
  refine wpAnyH_take (i := 5) (v := ?_) rfl (by kernel_rfl) (by kernel_rfl) (by kernel_rfl) (fun _ _ _ h => h) (Or.inl ⟨by rfl, ?_⟩) hS0 ?_
  rotate_left
  · intro X hX
    obtain hX1 := hX
    go_simp
    try with_reducible rfl
  simp only [Act.put]
  refine wpAnyH_done (by kernel_rfl) ?_ _
  simp only [List.getElem_toArray, List.getElem_cons_succ, List.getElem_cons_zero, List.setIfInBounds_toArray, List.set_cons_succ, List.set_cons_zero]
  clear hS0 hrow2 hrow3 hl3 hall3 hc2 hE1 hE2 hE3 hb2 hb3 hk2 hk3 hheld hparts hlast hfar hJ1 hJ2
  have hs0 : W.heap.size ≤ W3.heap.size := by omega
  clear hs1 hs2 hs3
  gi_wp2
  gi_loopw [22] (fun i wr => ∃ k : Nat, k ≤ np ∧ i = .int .i64 (k : Int) ∧ FEnv K n₁ Ba Bb (.slice A n c) (.slice A' m c') A A' Av ls bs vs ps g np wr ∧ J (List.range ((ps.take k).flatten).length) wr ∧ W.heap.size ≤ wr.heap.size) (fun i _ => np - (intOf i).toNat)
  case atStart => exact ⟨0, Nat.zero_le _, rfl, hFE, hJ3, hs0⟩
  case round =>
    clear hFE hJ3 hs0
    obtain ⟨k, hk, rfl, hFE, hJ, hs0⟩ := hrel
    by_cases hlt : k < np
    · have hkp : k < ps.length := by rw [HNP.out]; exact hlt
      have hkv : k < vs.length := by rw [hFE.hp.1]; exact hkp
      obtain ⟨Ap, cp, hpe, hpc, hpr⟩ := hFE.hp.at_ hkv hkp
      obtain ⟨av, rfl, _, hcv1⟩ := hFE.hv.rd.at_ hkv
      rw [hpe] at hcv1
      clear hpe
      have hplen := hle _ (List.getElem_mem hkp)
      have hos := off_succ hkp
      have hol := off_le ps (k + 1)
      rw [HF.out, HN.out] at hol
      obtain ⟨u, hcu, Au, cu, rfl, hRu⟩ := hFE.far.at_ (k := k + 1) hlt
      rw [rowV_length, HM.out] at hcu
      generalize hpk : ps[k] = p at *
      obtain ⟨pl, hpl⟩ : ∃ pl, p.length = pl := ⟨_, rfl⟩
      rw [hpl] at hplen hos hpc hcv1
      have HPL := Lib.hid hpl; clear hpl
      have HPK := Lib.hid hpk; clear hpk
      generalize hoff : ((ps.take k).flatten).length = off at *
      have HOS := Lib.hid hos; clear hos
      have HOFF := Lib.hid hoff; clear hoff
      have hol' : off + pl ≤ n := by rw [HOS.out] at hol; exact hol
      clear hol
      have hcb := hFE.env.bb.cell
      have hkw : IntKind.i64.wrap ((k : Int) + 1) = (k : Int) + 1 := IntWalk.i64_in _ (by omega)
      gi_wp2
      have i0 : (0 : Int) ≤ (k : Int) + 1 := by omega
      have i1 : ((k : Int) + 1).toNat = k + 1 := by omega
      have i2 : (k : Int) + 1 < (np : Int) + 1 := by omega
      refine wpIn_wide.2 ?_
      refine wp_region_held_drew (S := fun X : World => X.cell? ⟨Bb, 0, none⟩ = some (.slice A' m c') ∧ X.cell? ⟨g, k + 1, none⟩ = some (.slice Au (m + 1) cu)) (by kernel_rfl) ⟨hcb, hcu⟩ (fun hS0 => ?_)
      refine wpAnyH_take (i := 0) (v := ?_) rfl (by kernel_rfl) (by kernel_rfl) (by kernel_rfl) (fun _ _ _ h => h) (Or.inl ⟨by rfl, ?_⟩) hS0 ?_
      rotate_left
      · intro X hX
        obtain ⟨hX1, hX2⟩ := hX
        go_simp
        try with_reducible rfl
      simp only [Act.put]
      refine wpAnyH_take (i := 2) (v := ?_) rfl (by kernel_rfl) (by kernel_rfl) (by kernel_rfl) (fun _ _ _ h => h) (Or.inl ⟨by rfl, ?_⟩) hS0 ?_
      rotate_left
      · intro X hX
        obtain ⟨hX1, hX2⟩ := hX
        go_simp
        try with_reducible rfl
      simp only [Act.put]
      refine wpAnyH_take (i := 3) (v := ?_) rfl (by kernel_rfl) (by kernel_rfl) (by kernel_rfl) (fun _ _ _ h => h) (Or.inl ⟨by rfl, ?_⟩) hS0 ?_
      rotate_left
      · intro X hX
        obtain ⟨hX1, hX2⟩ := hX
        go_simp
        try with_reducible rfl
      simp only [Act.put]
      refine wpAnyH_take (i := 4) (v := ?_) rfl (by kernel_rfl) (by kernel_rfl) (by kernel_rfl) (fun _ _ _ h => h) (Or.inl ⟨by rfl, ?_⟩) hS0 ?_
      rotate_left
      · intro X hX
        obtain ⟨hX1, hX2⟩ := hX
        go_simp
        try with_reducible rfl
      simp only [Act.put]
      refine wpAnyH_take (i := 5) (v := ?_) rfl (by kernel_rfl) (by kernel_rfl) (by kernel_rfl) (fun _ _ _ h => h) (Or.inl ⟨by rfl, ?_⟩) hS0 ?_
      rotate_left
      · intro X hX
        obtain ⟨hX1, hX2⟩ := hX
        go_simp
        try with_reducible rfl
      simp only [Act.put]
      refine wpAnyH_take (i := 6) (v := ?_) rfl (by kernel_rfl) (by kernel_rfl) (by kernel_rfl) (fun _ _ _ h => h) (Or.inl ⟨by rfl, ?_⟩) hS0 ?_
      rotate_left
      · intro X hX
        obtain ⟨hX1, hX2⟩ := hX
        go_simp
        try with_reducible rfl
      simp only [Act.put]
      refine wpAnyH_take (i := 7) (v := ?_) rfl (by kernel_rfl) (by kernel_rfl) (by kernel_rfl) (fun _ _ _ h => h) (Or.inl ⟨by rfl, ?_⟩) hS0 ?_
      rotate_left
      · intro X hX
        obtain ⟨hX1, hX2⟩ := hX
        go_simp
        try with_reducible rfl
      simp only [Act.put]
      clear i0 i1 i2 hkw
      refine wpAnyH_ready (rs := [1]) (by kernel_rfl) (by simp) ?_
      refine AllReadyH.cons rfl (fun K' hK' => ?_) AllReadyH.nil
      go_simp
      refine (Cut Ap cp pl 1 n₁ p wr.drew HPL.out hpc hplen (Nat.le_refl _) (by omega) hFE.env.lo hpr).mono ?_
      rintro e W1 ⟨v, vs1, rfl, hrow1, hparts1, hb1⟩
      obtain ⟨Av1, cv1, rfl, hcv1', hheld1⟩ := held_own' (K := K) hrow1 (fun k h => (HKn.out k (Nat.le_trans hs0 h)).2.2)
      have hk1 : KpK n₁ K wr W1 := kpK_drew hFE.env.lo hb1
      have hFE1 := hFE.kp hKa hKb hk1
      have hs1 : W.heap.size ≤ W1.heap.size := Nat.le_trans hs0 hk1.1.size
      have hJ1 : J (List.range off) W1 := hJn _ _ _ hJ (grown_of_drew hb1)
      have hRu1 := hRu.kp hk1
      have hone : ch 1 p 0 = p.map fun x => [x] := by rw [ch_one p pl 0 (by rw [HPL.out]; omega)]; rfl
      rw [hone] at hparts1 ⊢
      have hol1 : (p.map fun x => [x]).length = pl := by rw [List.length_map, HPL.out]
      rw [hol1]
      have hcu1 : W1.cell? ⟨g, k + 1, none⟩ = some (.slice Au (m + 1) cu) := by
        obtain ⟨lt, _⟩ : (⟨g, k + 1, none⟩ : Addr).block < wr.heap.size ∧ True := ⟨World.block_lt_of_cell? wr _ hcu, trivial⟩
        exact (hb1.cell (p := ⟨g, k + 1, none⟩) lt).trans hcu
      refine hK'.out _ _ ⟨hFE1.env.bb.cell, hcu1⟩ (fun hS0 => ?_)
      clear hK' K' hrow1 hb1 hone hcu hcv1 hcb hFE hk1 hJ hRu hpr hcv1' hs0
      refine wpAnyH_ready (rs := [8]) (by kernel_rfl) (by simp) ?_
      refine AllReadyH.cons rfl (fun K' hK' => ?_) AllReadyH.nil
      go_simp
      refine (table Av1 A' Au cv1 c' cu pl m W1.heap.size vs1 (p.map fun x => [x]) ((ps.drop (k + 1)).flatten) bs W1 hol1 HM.out hplen hlm (fun q hq => by obtain ⟨x, _, rfl⟩ := List.mem_map.1 hq; simp) (Nat.le_refl _) hheld1.rd (hparts1.up hFE1.env.lo) (hFE1.env.rb.up hFE1.env.lo) hRu1.rd).mono ?_
      rintro e W2 ⟨g2, cap2, tv2, rfl, hrow2, hl2, hall2, hb2⟩
      have hk2 : KpK n₁ K W1 W2 := kpK_new hFE1.env.lo hb2
      have hFE2 := hFE1.kp hKa hKb hk2
      have hs2 : W.heap.size ≤ W2.heap.size := Nat.le_trans hs1 hk2.1.size
      have hJ2 : J (List.range off) W2 := hJn _ _ _ hJ1 (grown_of_below hb2 none)
      have hnear0 := tabOk_of_end (K := K) HM.out hol1 hrow2 hl2 hall2 ⟨_, _, by rw [rowV_length, HM.out], hRu1.kp hk2⟩ (fun k h => ⟨(HKn.out k (by omega)).1, (HKn.out k (by omega)).2.1⟩)
      have hnear : TabOk K W2 g2 pl (fun i => rowV (ls.drop (off + i)) bs) := hnear0.congr (fun i hi => by
        have := near_eq (i := i) hkp (by rw [HPK.out, HPL.out]; exact hi)
        rw [HPK.out, HF.out, HOFF.out] at this
        show rowV _ bs = rowV _ bs
        rw [this])
      have hcu2 : W2.cell? ⟨g, k + 1, none⟩ = some (.slice Au (m + 1) cu) := (hb2.cell (p := ⟨g, k + 1, none⟩) (World.block_lt_of_cell? W1 _ hcu1)).trans hcu1
      refine hK'.out _ _ ⟨hFE2.env.bb.cell, hcu2⟩ (fun hS0 => ?_)
      clear hK' K' hrow2 hl2 hall2 hnear0 hcu1 hcu2 hRu1 hFE1 hJ1 hk2 hb2 hs1 hheld1 hparts1
      refine wpAnyH_take (i := 9) (v := ?_) rfl (by kernel_rfl) (by kernel_rfl) (by kernel_rfl) (fun _ _ _ h => h) (Or.inl ⟨by rfl, ?_⟩) hS0 ?_
      rotate_left
      · intro X hX
        obtain ⟨hX1, hX2⟩ := hX
        go_simp
        try with_reducible rfl
      simp only [Act.put]
      refine wpAnyH_done (by kernel_rfl) ?_ _
      simp only [List.getElem_toArray, List.getElem_cons_succ, List.getElem_cons_zero, List.setIfInBounds_toArray, List.set_cons_succ, List.set_cons_zero]
      clear hS0
      gi_wp2
      gi_loopw [38] (fun i wr => ∃ j : Nat, j ≤ pl ∧ i = .int .i64 (j : Int) ∧ FEnv K n₁ Ba Bb (.slice A n c) (.slice A' m c') A A' (some av) ls bs vs ps g np wr ∧ TabOk K wr g2 pl (fun i => rowV (ls.drop (off + i)) bs) ∧ J (List.range (off + j)) wr ∧ W.heap.size ≤ wr.heap.size) (fun i _ => pl - (intOf i).toNat)
      case atStart => exact ⟨0, Nat.zero_le _, rfl, hFE2, hnear, hJ2, hs2⟩
      case round =>
        clear hFE2 hnear hJ2 hs2
        obtain ⟨j, hj, rfl, hFE, hnear, hJ, hs0⟩ := hrel
        by_cases hjl : j < pl
        · obtain ⟨u1, hc1, B1, d1, rfl, hR1⟩ := hnear.at_ (k := j) hj
          obtain ⟨u2, hc2, B2, d2, rfl, hR2⟩ := hnear.at_ (k := j + 1) hjl
          obtain ⟨post, hsplit⟩ := range_split (n := n) (i := off + j) (by omega)
          have HSP := Lib.hid hsplit; clear hsplit
          have hEr : ERow K ls bs (off + j) #[.slice B1 (rowV (ls.drop (off + j)) bs).length d1, .slice B2 (rowV (ls.drop (off + (j + 1))) bs).length d2] wr.drew := ⟨_, _, rfl, ⟨_, _, rfl, hR1⟩, ⟨_, _, rfl, hR2⟩⟩
          rw [rowV_length, HM.out] at hc1 hc2
          rw [rowV_length, rowV_length, HM.out] at hEr
          obtain ⟨fn, tmps, assign, body, hy, hRR⟩ := hY _ _ post _ wr.drew HSP.out (hJn _ _ _ hJ (grown_of_drew (Below.refl _ _))) hEr
          have hjw : IntKind.i64.wrap ((j : Int) + 1) = (j : Int) + 1 := IntWalk.i64_in _ (by omega)
          gi_wp2
          have i0 : (0 : Int) ≤ (j : Int) + 1 := by omega
          have i1 : ((j : Int) + 1).toNat = j + 1 := by omega
          have i2 : (j : Int) + 1 < (pl : Int) + 1 := by omega
          have i3 : (j : Int) < (pl : Int) + 1 := by omega
          refine still_in 10 (fun _ => trivial) (fun h => by cases h) (fun _ _ _ _ h => callsIn_wide.2 h) (by kernel_rfl) (by kernel_rfl) (by kernel_rfl) ?_
          simp only [List.take_succ_cons, List.take_zero, List.drop_succ_cons, List.drop_zero]
          repeat still_step
          refine wpStill_nil ?_
          clear i0 i1 i2 i3 hjw
          change wpListIn _ _ _ _ _ _ _ wr.drew
          gi_wp2
          refine ⟨(fun h => by cases h), ?_⟩
          refine hRR.mono ?_
          rintro e W5 (⟨rfl, hJ5, hk5⟩ | ⟨rfl, hJx5⟩)
          · have hk6 : KpK n₁ K wr W5 := kpK_t (kpK_new hFE.env.lo (Below.refl _ _).drew) hk5
            have hFE6 := hFE.kp hKa hKb hk6
            have hnear6 := hnear.kp hk6
            have hs6 : W.heap.size ≤ W5.heap.size := Nat.le_trans hs0 hk6.1.size
            gi_wp2
            go_roundw
            case rel => exact ⟨j + 1, by omega, by go_num, hFE6, hnear6, by rw [← Nat.add_assoc, List.range_succ]; exact hJ5, hs6⟩
            case measure => simp [intOf]; omega
          · gi_wp2
            refine bodyPost_ret (results_none rfl _ _ _) rfl ?_
            exact ⟨⟨_, rfl⟩, .inr ⟨_, post, by rw [HSP.out]; simp, hJx5⟩⟩
        · obtain rfl : j = pl := by omega
          gi_wp2
          go_roundw
          case rel => exact ⟨k + 1, by omega, by go_num, hFE, by rw [HOS.out]; exact hJ, hs0⟩
          case measure => simp [intOf]; omega
    · obtain rfl : k = np := by omega
      gi_wp2
      go_end0
      refine ⟨⟨_, rfl⟩, .inl ?_⟩
      rw [List.take_of_length_le (by rw [HNP.out]; exact Nat.le_refl _), HF.out, HN.out] at hJ
      exact hJ

theorem rows_gives (d n₁ Ba Bb n m c c' : Nat) (K : Nat → TypeId → Prop) (A A' : Option Addr) (ls bs : List (List UInt8)) (hn : ls.length = n) (hm : bs.length = m) (hnc : n ≤ c) (hln : n ≤ 1000) (hlm : m ≤ 1000) (w : World)
    (hKa : K Ba 33) (hKb : K Bb 33) (hKn : ∀ k, w.heap.size + 2 ≤ k → K k 134 ∧ K k 3 ∧ K k 33)
    (hba : Boxed w Ba 33 (.slice A n c)) (hbb : Boxed w Bb 33 (.slice A' m c')) (hlo : n₁ ≤ w.heap.size) (hR : RdS w n₁ A ls) (hR' : RdS w n₁ A' bs) :
    GivesE Try.prog Plain d 111 #[.pointer (some ⟨Ba, 0, none⟩), .pointer (some ⟨Bb, 0, none⟩)] (ERow K ls bs) (List.range n) (KpK n₁ K) w := fun J Jx W hW hs hJ _ hY h0 =>
  rows1_in d _ n₁ Ba Bb n m c c' K A A' ls bs hn hm hnc hln hlm J Jx W hKa hKb (by rw [hs]; exact hKn) (fun s W W' hs hg => hJ.new hs hg) (fun pre x post vals W1 h1 h2 h3 => yield_less (hY pre x post vals W1 h1 h2 h3))
    ⟨(hW.block Ba hba.lt).trans hba, (hW.block Bb hbb.lt).trans hbb, hR.below (hW.mono hlo), hR'.below (hW.mono hlo), by omega⟩ h0

end Lc
end Go.Proofs.Ytjhjmfodpnipiaa

namespace Go.Proofs.Ytjhjmfodpnipiaa
open Go.RowKit Go.Shelf
set_option linter.unusedVariables false
namespace Lc
open Tx Rg
attribute [local go_sem] Oper.semAt_some

/-- The iterator turns what is no cells, and boxes of numbers. -/
def FreeI (o : Obj) : Prop := o.isCells = false ∨ ∃ v, o = .cells #[v] 3 (0, 0)
/-- What a round that is handed a pair keeps: all cells but those of pairs and of lists of pairs; and whatever else is new. -/
def KpP (n₁ B : Nat) (X Y : World) : Prop := Below n₁ X Y ∧ (∀ (k : Nat) (c : Array Value) (t : TypeId) (f : Nat × Nat), X.heap[k]? = some (Obj.cells c t f) → t ≠ 103 → t ≠ 101 → Y.heap[k]? = some (Obj.cells c t f)) ∧ KeepsFrom B X Y
theorem kpP_t {n₁ B : Nat} {X Y Z : World} (h : KpP n₁ B X Y) (k : KpP n₁ B Y Z) : KpP n₁ B X Z := ⟨h.1.trans k.1, fun i c t f h1 h2 h3 => k.2.1 i c t f (h.2.1 i c t f h1 h2 h3) h2 h3, h.2.2.trans k.2.2⟩
theorem kpP_r {n₁ B : Nat} (W : World) : KpP n₁ B W W := ⟨Below.refl _ _, fun _ _ _ _ h _ _ => h, KeepsFrom.refl _ _⟩
theorem kpP_b {n₁ B l : Nat} (hn : n₁ ≤ l) (hl : l < B) (W : World) (o o' : Obj) (h : W.heap[l]? = some o) (hc : o.isCells = false) : KpP n₁ B W (W.putObj l o') :=
  ⟨(kpK_b (K := fun _ _ => True) hn W o o' h hc).1, fun k c t f h1 _ _ => (kpK_b (K := fun _ _ => True) hn W o o' h hc).2 k c t f h1 trivial, ⟨by simp, fun k o1 hk h1 _ => (World.putObj_heap_other (by omega)).trans h1⟩⟩

/-- All cells but those of pairs, and two boxes. -/
def KI (Bi Bj : Nat) (k : Nat) (t : TypeId) : Prop := t ≠ 103 ∧ t ≠ 101 ∧ k ≠ Bi ∧ k ≠ Bj
theorem kpI_of_P {n₁ B Bi Bj : Nat} {X Y : World} (h : KpP n₁ B X Y) : KpK n₁ (KI Bi Bj) X Y := ⟨h.1, fun k c t f h1 h2 => h.2.1 k c t f h1 h2.1 h2.2.1⟩
theorem kpK_grown {n₁ b : Nat} {K : Nat → TypeId → Prop} {W W' : World} (hg : W.grownBy W' (some b)) (hn : n₁ ≤ b) (hs : n₁ ≤ W.heap.size) (hK : ∀ t, ¬ K b t) : KpK n₁ K W W' :=
  ⟨(Below.refl _ _).grown hg hs (fun k e => by cases e; exact hn), fun k c t f h1 h2 => by
    by_cases e : k = b
    · subst e; exact (hK t h2).elim
    · exact (hg.block k (Array.getElem?_eq_some_iff.1 h1).1 (by simpa using e)).trans h1⟩

theorem held_ab {K : Nat → TypeId → Prop} {A : Option Addr} {xs : List Value} {B : Nat} {β : Type} : Ab (β := β) Plain B (fun _ W => Held K W A xs) := fun s W W' row hs hg hr => by
  rcases hs with h | ⟨a, c, t, f, h1, h2, h3, h4⟩
  · exact .inl h
  · have h5 : W'.heap[a.block]? = W.heap[a.block]? := hg.block _ (Array.getElem?_eq_some_iff.1 h2).1 (fun e => by
      obtain ⟨_, o, ho, hf⟩ := hr _ e.symm
      rw [h2] at ho; cases ho; cases hf)
    exact .inr ⟨a, c, t, f, h1, h5.trans h2, h3, fun j u hu => (World.cell?_of_block (w := W) (a := a.add j) (by rw [add_block]; exact h5)).trans (h4 j u hu)⟩
theorem rowH_ab {K : Nat → TypeId → Prop} {u : Value} {xs : List Value} {B : Nat} {β : Type} : Ab (β := β) Plain B (fun _ W => RowH K W u xs) := ab_ex fun A => ab_ex fun c => Ab.and (ab_pure _ _ _) held_ab

theorem pairs_in (n : Nat) (A A' : Option Addr) (l c l' c' : Nat) (w : World) :
    CallsIn Fence.wide n Try.prog 99 #[.slice A l c, .slice A' l' c'] w fun e w' => e = .returned (.func (.func 108) #[] #[.pointer (some ⟨w.heap.size, 0, none⟩), .pointer (some ⟨w.heap.size + 1, 0, none⟩)]) ∧ w' = (w.alloc (.cells #[.slice A l c] 33)).alloc (.cells #[.slice A' l' c'] 33) := by
  refine callsIn_of_wp Try.func99 rfl trivial ?_ rfl
  simp only [Try.ntmps99, List.size_toArray, List.length_cons, List.length_nil, Nat.reduceAdd, Nat.reduceSub, Array.replicate_succ, Array.replicate_zero, List.push_toArray, List.append_toArray, List.nil_append, List.cons_append]
  gi_wp2
  go_ret
  exact ⟨rfl, rfl⟩

/-- The value of a pair. -/
abbrev pairV (p : Nat × Nat) : Value := .agg #[.int .i64 (p.1 : Int), .int .i64 (p.2 : Int)]

/-- What stays through the rounds of pairs: z is the heap's size where its own boxes begin. -/
structure PBox (z Ba Bb l : Nat) (va vb : Value) (W : World) : Prop where
  ba : Boxed W Ba 33 va
  bb : Boxed W Bb 33 vb
  y : Boxed W z 130 (.func (.yield l) #[] #[])

/-- Between two rounds of pairs: i places of a are over, and j of b; what has been told, and the rest, are all pairs. -/
def PInv (n₁ z Ba Bb l m : Nat) (va vb : Value) (A A' : Option Addr) (ls bs : List (List UInt8)) (J : List (Nat × Nat) → World → Prop) (pre : List Nat) (W : World) : Prop :=
  (PBox z Ba Bb l va vb W ∧ Boxed W (z + 1) 3 (.int .i64 (pre.length : Int))) ∧
    (∃ j dn, (j ≤ m ∧ pairs ls bs = dn ++ rest ls bs pre.length j) ∧ Boxed W (z + 1 + 1) 3 (.int .i64 (j : Int)) ∧ J dn W) ∧ (RdS W n₁ A ls ∧ RdS W n₁ A' bs) ∧ n₁ ≤ W.heap.size
/-- A round has left. -/
def PLeft (full : List (Nat × Nat)) (J Jx : List (Nat × Nat) → World → Prop) (c : Code) (_ : List Nat) (W : World) : Prop :=
  c = .ret ∧ (J full W ∨ ∃ p q, full = p ++ q ∧ Jx p W)

theorem rd_ab {B n₁ : Nat} {β : Type} {A : Option Addr} {xs : List Value} (hB : n₁ ≤ B) : Ab (β := β) Plain B (fun _ W => Rd W n₁ A xs ∧ n₁ ≤ W.heap.size) := fun s W W' row hs hg hr =>
  ⟨hs.1.below ((Below.refl _ _).grown hg hs.2 (fun k e => by have := (hr k e).1; omega)), Nat.le_trans hs.2 hg.size⟩

theorem pInv_ab {n₁ z Ba Bb l m B B' : Nat} {va vb : Value} {A A' : Option Addr} {ls bs : List (List UInt8)} {J : List (Nat × Nat) → World → Prop} (hJ : Ab FreeI B' J) (hB : B' ≤ B) (hn : n₁ ≤ B) : Ab Plain B (PInv n₁ z Ba Bb l m va vb A A' ls bs J) := by
  have hJ' : ∀ dn, Ab Plain B (fun (_ : List Nat) W => J dn W) := fun dn s W W' row hs hg hr => hJ dn W W' row hs hg (fun r e => ⟨by have := (hr r e).1; omega, let ⟨o, h1, h2⟩ := (hr r e).2; ⟨o, h1, .inl h2⟩⟩)
  intro s W W' row hs hg hr
  obtain ⟨⟨⟨h1, h2, h3⟩, h4⟩, ⟨j, dn, h5, h6, h7⟩, ⟨h8, h9⟩, h10⟩ := hs
  have bx : ∀ {b : Nat} {t : TypeId} {v : Value}, Boxed W b t v → Boxed W' b t v := fun h => ab_boxed (Free := Plain) (B := B) (fun _ : Unit => _) (fun _ => plain_cells _ _ _) () W W' row h hg hr
  have r1 := rd_ab (β := Unit) hn () W W' row ⟨h8, h10⟩ hg hr
  have r2 := rd_ab (β := Unit) hn () W W' row ⟨h9, h10⟩ hg hr
  exact ⟨⟨⟨bx h1, bx h2, bx h3⟩, bx h4⟩, ⟨j, dn, h5, bx h6, hJ' dn s W W' row h7 hg hr⟩, ⟨r1.1, r2.1⟩, r1.2⟩
theorem pLeft_ab {B B' : Nat} {full : List (Nat × Nat)} {J Jx : List (Nat × Nat) → World → Prop} (hJ : Ab FreeI B' J) (hJx : Ab FreeI B' Jx) (hB : B' ≤ B) (c : Code) : Ab Plain B (PLeft full J Jx c) := fun s W W' row hs hg hr => by
  have hr' : ∀ r, row = some r → B' ≤ r ∧ ∃ o : Obj, W.heap[r]? = some o ∧ FreeI o := fun r e => ⟨by have := (hr r e).1; omega, let ⟨o, h1, h2⟩ := (hr r e).2; ⟨o, h1, .inl h2⟩⟩
  refine ⟨hs.1, ?_⟩
  rcases hs.2 with h | ⟨p, q, h1, h2⟩
  · exact .inl (hJ _ W W' row h hg hr')
  · exact .inr ⟨p, q, h1, hJx _ W W' row h2 hg hr'⟩

theorem range_at {n i : Nat} {pre post : List Nat} (h : List.range n = pre ++ i :: post) : i = pre.length ∧ i < n := by
  have hl : n = pre.length + (post.length + 1) := by have := congrArg List.length h; simpa using this
  have hx : (List.range n)[pre.length]? = some i := by rw [h]; simp
  rw [List.getElem?_range (by omega)] at hx
  exact ⟨(Option.some.inj hx).symm, by have := Option.some.inj hx; omega⟩
/-- The number in a box. -/
def jOf (W : World) (b : Nat) : Nat := match W.cell? ⟨b, 0, none⟩ with | some (.int _ q) => q.toNat | _ => 0
theorem jOf_eq {W : World} {b : Nat} {t : TypeId} {j : Nat} (h : Boxed W b t (.int .i64 (j : Int))) : jOf W b = j := by unfold jOf; rw [h.cell]; simp
theorem pbox_kp {n₁ z Ba Bb l : Nat} {va vb : Value} {X W' : World} (h : PBox z Ba Bb l va vb X) (ha : Ba < z) (hb : Bb < z) (hk : KpK n₁ (KI (z + 1) (z + 1 + 1)) X W') : PBox z Ba Bb l va vb W' :=
  ⟨box_kp h.ba ⟨by decide, by decide, by omega, by omega⟩ hk, box_kp h.bb ⟨by decide, by decide, by omega, by omega⟩ hk, box_kp h.y ⟨by decide, by decide, by omega, by omega⟩ hk⟩
theorem kpK_drewN {n₁ : Nat} {K : Nat → TypeId → Prop} (W : World) (d : Nat) : KpK n₁ K W (W.drewN d) := ⟨below_drewN (Below.refl _ _) d, fun _ _ _ _ h _ => h⟩
theorem keepsFrom_drewN (B : Nat) (W : World) (d : Nat) : KeepsFrom B W (W.drewN d) := ⟨Nat.le_refl _, fun _ _ _ h _ => h⟩

theorem round_depth {P : Program} {a b l l' f : Nat} {t : Array Value} {as' bd : Code} {w : World} {R : Ending → World → Prop} (h : RoundIn Fence.wide a P l f t as' bd w R) : RoundIn (Fence.wide.inRound l') b P l f t as' bd w R := ⟨trivial, fun c cs _ => h.2 c cs (room_wide _)⟩
/-- A store into one of the two boxes. -/
theorem pset {n₁ z b B0 : Nat} {v : Value} {J : List (Nat × Nat) → World → Prop} {dn : List (Nat × Nat)} {Y : World} (hJ : Ab FreeI B0 J) (h : Boxed Y b 3 v) (hb : b = z + 1 ∨ b = z + 1 + 1) (hz : B0 ≤ z) (hn : n₁ ≤ z) (u : Value) (hd : J dn Y) :
    KpK n₁ (KI (z + 1) (z + 1 + 1)) Y (Y.setCell ⟨b, 0, none⟩ u) ∧ (∀ B, KeepsFrom B Y (Y.setCell ⟨b, 0, none⟩ u)) ∧ Boxed (Y.setCell ⟨b, 0, none⟩ u) b 3 u ∧ J dn (Y.setCell ⟨b, 0, none⟩ u) := by
  have hg := grownBy_setCell' Y b u
  refine ⟨kpK_grown hg (by omega) (by have := h.lt; omega) (fun t hk => ?_), fun B => (KeepsOthers.setCell _ _ _).from B, h.set u, hJ dn Y _ _ hd hg (fun r e => by cases e; exact ⟨by omega, _, h, .inr ⟨_, rfl⟩⟩)⟩
  rcases hb with hb | hb
  · exact hk.2.2.1 hb
  · exact hk.2.2.2 hb

theorem p_close {n₁ z Ba Bb l m i j : Nat} {va vb : Value} {A A' : Option Addr} {ls bs : List (List UInt8)} {J : List (Nat × Nat) → World → Prop} {pre : List Nat} {dn : List (Nat × Nat)} {X W' : World} (hbx : PBox z Ba Bb l va vb X) (ha : Ba < z) (hb : Bb < z) (hkp : KpK n₁ (KI (z + 1) (z + 1 + 1)) X W')
    (hra : RdS X n₁ A ls) (hrb : RdS X n₁ A' bs) (hlo : n₁ ≤ X.heap.size) (hi : i = pre.length) (hbi : Boxed W' (z + 1) 3 (.int .i64 ((i : Int) + 1))) (hbj : Boxed W' (z + 1 + 1) 3 (.int .i64 (j : Int))) (hj : j ≤ m) (hJ : J dn W') (hp : pairs ls bs = dn ++ rest ls bs (i + 1) j) :
    PInv n₁ z Ba Bb l m va vb A A' ls bs J (pre ++ [i]) W' := by
  have e : (pre ++ [i]).length = i + 1 := by simp [hi]
  unfold PInv
  rw [e]
  exact ⟨⟨pbox_kp hbx ha hb hkp, by simpa using hbi⟩, ⟨j, dn, ⟨hj, hp⟩, hbj, hJ⟩, ⟨hra.below hkp.1, hrb.below hkp.1⟩, Nat.le_trans hlo hkp.1.size⟩

theorem boxes5 (w : World) (v0 v1 v2 v3 v4 : Value) (t0 t1 t2 t3 t4 : TypeId) :
    let w5 := ((((w.alloc (.cells #[v0] t0)).alloc (.cells #[v1] t1)).alloc (.cells #[v2] t2)).alloc (.cells #[v3] t3)).alloc (.cells #[v4] t4)
    Boxed w5 w.heap.size t0 v0 ∧ Boxed w5 (w.heap.size + 1) t1 v1 ∧ Boxed w5 (w.heap.size + 1 + 1) t2 v2 ∧ Boxed w5 (w.heap.size + 1 + 1 + 1) t3 v3 ∧ Boxed w5 (w.heap.size + 1 + 1 + 1 + 1) t4 v4 ∧ w.grownBy w5 none := by
  intro w5
  obtain ⟨h0, h1, h2, h3, hg⟩ := boxes4 w v0 v1 v2 v3 t0 t1 t2 t3
  have b4 := Boxed.new ((((w.alloc (.cells #[v0] t0)).alloc (.cells #[v1] t1)).alloc (.cells #[v2] t2)).alloc (.cells #[v3] t3)) t4 v4
  simp only [World.size_alloc] at b4
  exact ⟨h0.alloc _, h1.alloc _, h2.alloc _, h3.alloc _, b4, grow_trans hg (World.grownBy_alloc _ _ none) (by simp)⟩

set_option maxRecDepth 100000 in
set_option maxHeartbeats 4000000 in
theorem pairs_gives (n₁ Ba Bb n m c c' : Nat) (A A' : Option Addr) (ls bs : List (List UInt8)) (hn : ls.length = n) (hm : bs.length = m) (hnc : n ≤ c) (hln : n ≤ 1000) (hlm : m ≤ 1000) (w : World)
    (hba : Boxed w Ba 33 (.slice A n c)) (hbb : Boxed w Bb 33 (.slice A' m c')) (hlo : n₁ ≤ w.heap.size) (hR : RdS w n₁ A ls) (hR' : RdS w n₁ A' bs) :
    Gives Try.prog FreeI 3 108 #[.pointer (some ⟨Ba, 0, none⟩), .pointer (some ⟨Bb, 0, none⟩)] (fun p => #[pairV p]) (pairs ls bs) (KpP n₁ (w.heap.size + 2)) w := fun J Jx W hW hs hJ hJx hY h0 => by
  have HM := Lib.hid hm; clear hm
  have HN := Lib.hid hn; clear hn
  have hba1 : Boxed W Ba 33 (.slice A n c) := (hW.block Ba hba.lt).trans hba
  have hbb1 : Boxed W Bb 33 (.slice A' m c') := (hW.block Bb hbb.lt).trans hbb
  have hR1 := hR.below (hW.mono hlo)
  have hR1' := hR'.below (hW.mono hlo)
  have hla := hba.lt
  have hlb := hbb.lt
  clear hba hbb hR hR' hW
  have hz : w.heap.size + 2 = W.heap.size := hs.symm
  have hlow : n₁ ≤ W.heap.size := by omega
  have hla' : Ba < W.heap.size := by omega
  have hlb' : Bb < W.heap.size := by omega
  rw [hz] at hJ hJx
  generalize hyl : w.heap.size + 1 = yl at *
  have HY := Lib.hid hY; clear hY
  have HZ := Lib.hid hz; clear hz hyl hs hla hlb hlo
  have hca : ∀ o1 o2 o3 : Obj, (((W.alloc o1).alloc o2).alloc o3).cell? ⟨Ba, 0, none⟩ = some (.slice A n c) := fun o1 o2 o3 => (((hba1.alloc o1).alloc o2).alloc o3).cell
  have hcb : ∀ o1 o2 o3 : Obj, (((W.alloc o1).alloc o2).alloc o3).cell? ⟨Bb, 0, none⟩ = some (.slice A' m c') := fun o1 o2 o3 => (((hbb1.alloc o1).alloc o2).alloc o3).cell
  refine callsIn_of_wp_marks Try.func108 rfl trivial ?_ rfl
  simp only [Try.ntmps108, List.size_toArray, List.length_cons, List.length_nil, Nat.reduceAdd, Nat.reduceSub, Array.replicate_succ, Array.replicate_zero, List.push_toArray, List.append_toArray, List.nil_append, List.cons_append]
  gi_wp2_with fail
  refine ⟨trivial, ?_⟩
  refine (rows_in 2 _ _ _ _ _ _ _).mono ?_
  rintro e w' ⟨rfl, rfl⟩
  clear hca hcb
  gi_wp2
  obtain ⟨hB0, hB1, hB2, hB3, hB4, hg5⟩ := boxes5 W (.func (.yield yl) #[] #[]) (.int .i64 0) (.int .i64 0) (.slice A n c) (.slice A' m c') 130 3 3 33 33
  have hb5 := (Below.refl n₁ W).grown hg5 hlow (by simp)
  have hsz5 : (((((W.alloc (.cells #[.func (.yield yl) #[] #[]] 130)).alloc (.cells #[.int .i64 0] 3)).alloc (.cells #[.int .i64 0] 3)).alloc (.cells #[.slice A n c] 33)).alloc (.cells #[.slice A' m c'] 33)).heap.size = W.heap.size + 5 := by simp
  refine range_law (n := 3) (gf := 111) (lb := #[.pointer (some ⟨W.heap.size + 1 + 1 + 1, 0, none⟩), .pointer (some ⟨W.heap.size + 1 + 1 + 1 + 1, 0, none⟩)]) rfl (enters_of Try.func111 (by kernel_rfl) rfl) (Free := Plain) (fun _ h => h)
    (rows_gives 2 n₁ (W.heap.size + 1 + 1 + 1) (W.heap.size + 1 + 1 + 1 + 1) n m c c' (KI (W.heap.size + 1) (W.heap.size + 1 + 1)) A A' ls bs HN.out HM.out hnc hln hlm _
      ⟨by decide, by decide, by omega, by omega⟩ ⟨by decide, by decide, by omega, by omega⟩ (fun k hk => by rw [hsz5] at hk; exact ⟨⟨by decide, by decide, by omega, by omega⟩, ⟨by decide, by decide, by omega, by omega⟩, ⟨by decide, by decide, by omega, by omega⟩⟩) hB3 hB4 (by rw [hsz5]; omega) (hR1.below hb5) (hR1'.below hb5))
    kpK_t (kpK_b (by rw [hsz5]; omega)) (fun x vals W h => by obtain ⟨v1, v2, rfl, _⟩ := h; rfl)
    (PInv n₁ W.heap.size Ba Bb yl m (.slice A n c) (.slice A' m c') A A' ls bs J) (PLeft (pairs ls bs) J Jx) (pInv_ab hJ (by rw [hsz5]; omega) (by rw [hsz5]; omega)) (pLeft_ab hJ hJx (by rw [hsz5]; omega)) ?h0
    (fun x a' X => ∃ v1 v2, a' = { tmps := #[.func (.yield yl) #[] #[], .pointer (some ⟨Ba, 0, none⟩), .pointer (some ⟨Bb, 0, none⟩), .pointer (some ⟨W.heap.size, 0, none⟩), .pointer (some ⟨W.heap.size + 1, 0, none⟩), .pointer (some ⟨W.heap.size + 1 + 1, 0, none⟩), v1, v2, .slice A n c, .slice A' m c', .func (.func 111) #[] #[.pointer (some ⟨W.heap.size + 1 + 1 + 1, 0, none⟩), .pointer (some ⟨W.heap.size + 1 + 1 + 1 + 1, 0, none⟩)], v1, v2, undef, undef, undef, undef, undef, undef, undef, undef, undef, undef, undef, undef, undef, undef, undef, undef, undef, undef, undef, undef, undef, undef, undef, undef, undef, undef, undef, undef, undef, undef, undef, undef, undef, undef, undef, undef, undef, undef, undef, undef, undef, undef, undef, undef, undef, undef, undef, undef, undef, undef, undef, undef], defers := [] } ∧ RowH (KI (W.heap.size + 1) (W.heap.size + 1 + 1)) X v1 (rowV (ls.drop x) bs) ∧ RowH (KI (W.heap.size + 1) (W.heap.size + 1 + 1)) X v2 (rowV (ls.drop (x + 1)) bs))
    (fun x a' => ab_ex fun v1 => ab_ex fun v2 => Ab.and (ab_pure _ _ _) (Ab.and rowH_ab rowH_ab)) ?assign ?body ?done ?stop
  case h0 =>
    have kb : ∀ {b : Nat} {t : TypeId} {v : Value}, Boxed W b t v → Boxed _ b t v := fun h => h.kept hg5 (by simp)
    refine ⟨⟨⟨kb hba1, kb hbb1, hB0⟩, hB1⟩, ⟨0, [], ⟨Nat.zero_le _, ?_⟩, hB2, hJ.new h0 hg5⟩, ⟨hR1.below hb5, hR1'.below hb5⟩, by rw [hsz5]; omega⟩
    rw [List.nil_append, List.length_nil, rest_zero]
  case assign =>
    rintro l pre x vals X K hi ⟨v1, v2, rfl, h1, h2⟩ hK
    gi_wp2
    exact hK _ _ (KeepsFrom.refl _ _) (kpK_r _) hi ⟨v1, v2, rfl, h1, h2⟩
  case body =>
    rintro l pre post i a' X hfull hI ⟨v1, v2, rfl, ⟨Ah, ch, rfl, hr1⟩, ⟨An, cn, rfl, hr2⟩⟩
    obtain ⟨hi, hin⟩ := range_at hfull
    clear hfull
    simp only [rowV_length, HM.out]
    obtain ⟨⟨hbx, hI4⟩, ⟨j0, dn, ⟨hj0, hpairs⟩, hJb, hJd⟩, ⟨hra, hrb⟩, hlo⟩ := hI
    rw [← hi] at hI4 hpairs
    have HIP := Lib.hid hi; clear hi
    have HPR := Lib.hid hpairs; clear hpairs
    have hil : i < ls.length := by rw [HN.out]; exact hin
    obtain ⟨aa, rfl, hca⟩ := hra.at' hil
    obtain ⟨ah, rfl, _, _⟩ := hr1.rd.at_ (k := 0) (by rw [rowV_length]; omega)
    obtain ⟨an, rfl, _, _⟩ := hr2.rd.at_ (k := 0) (by rw [rowV_length]; omega)
    gi_wp2
    gi_loopw [13] (fun _ wr => ∃ j : Nat, j ≤ m ∧ Boxed wr (W.heap.size + 1 + 1) 3 (.int .i64 (j : Int)) ∧ X.grownBy wr (some (W.heap.size + 1 + 1)) ∧ pairs ls bs = dn ++ rest ls bs i j) (fun _ wr => m - jOf wr (W.heap.size + 1 + 1))
    case atStart => exact ⟨j0, hj0, hJb, World.grownBy.refl _ _, HPR.out⟩
    case round =>
      obtain ⟨j, hj, hbj, hg, hpj⟩ := hrel
      clear HPR
      have HPJ := Lib.hid hpj; clear hpj
      have hkp : KpK n₁ (KI (W.heap.size + 1) (W.heap.size + 1 + 1)) X wr := kpK_grown hg (by omega) hlo (fun t h => h.2.2.2 rfl)
      have hkf : ∀ B, KeepsFrom B X wr := fun B => (KeepsOthers.of_grownBy hg (fun k o e ho => by cases e; rw [show X.heap[W.heap.size + 1 + 1]? = _ from hJb] at ho; cases ho; rfl)).from B
      have hbw := pbox_kp hbx hla' hlb' hkp
      have hiw := hI4.kept hg (by simp)
      have hJw : J dn wr := hJ dn X wr _ hJd hg (fun r e => by cases e; exact ⟨by omega, _, hJb, .inr ⟨_, rfl⟩⟩)
      have hrbw : RdS wr n₁ A' bs := hrb.below hkp.1
      have hraw : RdS wr n₁ (some aa) ls := hra.below hkp.1
      have hlow' : n₁ ≤ wr.heap.size := Nat.le_trans hlo hkp.1.size
      have hcaw := (hkp.1.cell (p := aa.add i) (by obtain ⟨a1, e1, h1, _⟩ := hra.at_ (k := i) (by simpa using hil); injection e1 with e1; subst e1; rw [add_block]; exact h1)).trans hca
      have c1 := hbw.ba.cell
      have c2 := hbw.bb.cell
      have c3 := hbw.y.cell
      have c4 := hiw.cell
      have c5 := hbj.cell
      have f4 := hiw.frozen
      have f5 := hbj.frozen
      have hini : (i : Int) < (n : Int) := by omega
      by_cases hjm : j < m
      · have hjb : j < bs.length := by rw [HM.out]; exact hjm
        obtain ⟨ab, rfl, hcbw⟩ := hrbw.at' hjb
        have hcn := rd_cells (hr2.kp hkp).rd j _ (rowV_at _ _ (by omega))
        have hch := rd_cells (hr1.kp hkp).rd (j + 1) _ (rowV_at _ _ (by omega))
        rw [show ah.add (j + 1) = ⟨ah.block, ah.off + (j + 1), none⟩ by simp [Addr.add]] at hch
        have hjmi : (j : Int) < (m : Int) := by omega
        have j0' : (0 : Int) ≤ (j : Int) + 1 := by omega
        have j1' : ((j : Int) + 1).toNat = j + 1 := by omega
        have j2' : (j : Int) + 1 < (m : Int) + 1 := by omega
        have j3' : (j : Int) < (m : Int) + 1 := by omega
        have j4' : IntKind.i64.wrap ((j : Int) + 1) = (j : Int) + 1 := IntWalk.i64_in _ (by omega)
        by_cases hxy : ls[i] = bs[j]
        · have HR : Hid (rest ls bs i j = (i, j) :: rest ls bs (i + 1) (j + 1)) := Lib.hid (rest_same hil hjb hxy)
          have hbe : (ls[i] == bs[j]) = true := by simpa using hxy
          have hbn : (ls[i] != bs[j]) = false := by simpa using hxy
          have hjme : ((j : Int) == (m : Int)) = false := by simp; omega
          generalize ls[i] = x at *
          generalize bs[j] = y at *
          clear hxy hcn hch
          gi_wp2
          refine round_quiet (by kernel_rfl) (by kernel_rfl) (by kernel_rfl) ?_ ?_
          · rintro ⟨_, _, h⟩; exact h
          repeat (go_big_quiet_step (fail))
          refine wpQuiet_nil ?_
          intro _ hw'
          obtain ⟨nq, hw''⟩ := hw'
          subst hw''
          clear j0' j1' j2' j3' j4'
          gi_wp2
          refine round_quiet (by kernel_rfl) (by kernel_rfl) (by kernel_rfl) ?_ ?_
          · rintro ⟨_, _, h⟩; exact h
          repeat (go_big_quiet_step (fail))
          refine wpQuiet_nil ?_
          intro _ hw'
          obtain ⟨nq2, hw''⟩ := hw'
          subst hw''
          have hJ2 : J dn (wr.drewN (nq + nq2)) := hJ.new hJw (drew_new wr (nq + nq2))
          have hsp : pairs ls bs = dn ++ (i, j) :: rest ls bs (i + 1) (j + 1) := by rw [HPJ.out, HR.out]
          obtain ⟨fn, tmps, assign, body, hy, hRR⟩ := HY.out dn (i, j) _ _ (wr.drewN (nq + nq2)) hsp hJ2 rfl
          dsimp only [pairV] at hy
          have HSP := Lib.hid hsp; clear hsp
          gi_wp2
          refine (round_depth hRR).mono ?_
          rintro e W3 (⟨rfl, hJ3, hk3⟩ | ⟨rfl, hJx3, hkx3⟩)
          · have hbi3 : Boxed W3 (W.heap.size + 1) 3 (.int .i64 (i : Int)) := hk3.2.1 _ _ _ _ hiw (by decide) (by decide)
            have hbj3 : Boxed W3 (W.heap.size + 1 + 1) 3 (.int .i64 (j : Int)) := hk3.2.1 _ _ _ _ hbj (by decide) (by decide)
            have d4 := hbi3.cell
            have d5 := hbj3.cell
            have e4 := hbi3.frozen
            have e5 := hbj3.frozen
            obtain ⟨k1, k2, k3, k4⟩ := pset (z := W.heap.size) (n₁ := n₁) hJ hbj3 (.inr rfl) (Nat.le_refl _) hlow (.int .i64 ((j : Int) + 1)) hJ3
            obtain ⟨k5, k6, k7, k8⟩ := pset (z := W.heap.size) (n₁ := n₁) hJ (hbi3.other (B' := W.heap.size + 1 + 1) (by simp) (.int .i64 ((j : Int) + 1))) (.inl rfl) (Nat.le_refl _) hlow (.int .i64 ((i : Int) + 1)) k4
            have kk := kpK_t (kpK_t (kpK_t (kpK_t hkp (kpK_drewN wr (nq + nq2))) (kpI_of_P hk3)) k1) k5
            have HK := Lib.hid (And.intro k2 (And.intro k6 (And.intro k7 (And.intro k3 k8))))
            have hks3 := hk3.2.2
            clear k1 k2 k3 k4 k5 k6 k7 k8
            gi_wp2
            refine ⟨((((hkf _).trans (keepsFrom_drewN _ wr (nq + nq2))).trans (keepsFrom_mono hks3 (by rw [hsz5, HZ.out]; omega))).trans (HK.out.1 _)).trans (HK.out.2.1 _), kk, p_close (j := j + 1) hbx hla' hlb' kk hra hrb hlo HIP.out HK.out.2.2.1 ?_ (by omega) HK.out.2.2.2.2 (by rw [HSP.out]; simp)⟩
            have := HK.out.2.2.2.1.other (B' := W.heap.size + 1) (by simp) (.int .i64 ((i : Int) + 1))
            simpa using this
          · gi_wp2
            exact ⟨((hkf _).trans (keepsFrom_drewN _ wr (nq + nq2))).trans (keepsFrom_mono hkx3 (by rw [hsz5, HZ.out]; omega)), rfl, .inr ⟨dn ++ [(i, j)], _, by rw [HSP.out, List.append_assoc]; rfl, hJx3⟩⟩
        · by_cases hlt : tab ls bs (i + 1) j < tab ls bs i (j + 1)
          · have HR : Hid (rest ls bs i j = rest ls bs i (j + 1)) := Lib.hid (by rw [rest_ne hil hjb hxy, if_neg (by omega)])
            have hbe : (ls[i] == bs[j]) = false := by simpa using hxy
            have hbn : (ls[i] != bs[j]) = true := by simpa using hxy
            have hq1 := lcs_len (ls.drop i) bs (j + 1)
            have hq2 := lcs_len (ls.drop (i + 1)) bs j
            unfold tab at hlt
            generalize ls[i] = x at *
            generalize bs[j] = y at *
            generalize lcs (ls.drop i) (bs.drop (j + 1)) = q1 at *
            generalize lcs (ls.drop (i + 1)) (bs.drop j) = q2 at *
            have hd : decide (q2 < q1) = true := by simpa using hlt
            clear hxy
            gi_wp2
            refine round_quiet (by kernel_rfl) (by kernel_rfl) (by kernel_rfl) ?_ ?_
            · rintro ⟨_, _, h⟩; exact h
            repeat (go_big_quiet_step (fail))
            refine wpQuiet_nil ?_
            intro _ hw'
            obtain ⟨nq, hw''⟩ := hw'
            subst hw''
            clear j0' j1' j2' j3' j4'
            gi_wp2
            have hset : Boxed ((wr.drewN nq).setCell ⟨W.heap.size + 1 + 1, 0, none⟩ (.int .i64 ((j : Int) + 1))) (W.heap.size + 1 + 1) 3 (.int .i64 ((j + 1 : Nat) : Int)) := by
              have := Boxed.set (W := wr.drewN nq) (.int .i64 ((j : Int) + 1)) hbj
              simpa using this
            refine ⟨⟨j + 1, by omega, hset, grow_trans (grow_trans hg (drew_new wr nq) (by simp)) (grownBy_setCell' _ _ _) (fun k e => .inr (by simpa using e)), by rw [HPJ.out, HR.out]⟩, ?_⟩
            rw [jOf_eq hset, jOf_eq hbj]
            omega
          · have HR : Hid (rest ls bs i j = rest ls bs (i + 1) j) := Lib.hid (by rw [rest_ne hil hjb hxy, if_pos (by omega)])
            have hbe : (ls[i] == bs[j]) = false := by simpa using hxy
            have hbn : (ls[i] != bs[j]) = true := by simpa using hxy
            have hq1 := lcs_len (ls.drop i) bs (j + 1)
            have hq2 := lcs_len (ls.drop (i + 1)) bs j
            unfold tab at hlt
            generalize ls[i] = x at *
            generalize bs[j] = y at *
            generalize lcs (ls.drop i) (bs.drop (j + 1)) = q1 at *
            generalize lcs (ls.drop (i + 1)) (bs.drop j) = q2 at *
            have hd : decide (q2 < q1) = false := by simpa using hlt
            have hjme : ((j : Int) == (m : Int)) = false := by simp; omega
            clear hxy
            gi_wp2
            refine round_quiet (by kernel_rfl) (by kernel_rfl) (by kernel_rfl) ?_ ?_
            · rintro ⟨_, _, h⟩; exact h
            repeat (go_big_quiet_step (fail))
            refine wpQuiet_nil ?_
            intro _ hw'
            obtain ⟨nq, hw''⟩ := hw'
            subst hw''
            clear j0' j1' j2' j3' j4'
            gi_wp2
            refine round_quiet (by kernel_rfl) (by kernel_rfl) (by kernel_rfl) ?_ ?_
            · rintro ⟨_, _, h⟩; exact h
            repeat (go_big_quiet_step (fail))
            refine wpQuiet_nil ?_
            intro _ hw'
            obtain ⟨nq2, hw''⟩ := hw'
            subst hw''
            gi_wp2
            obtain ⟨k1, k2, k3, k4⟩ := pset (z := W.heap.size) (n₁ := n₁) (Y := wr.drewN (nq + nq2)) hJ hiw (.inl rfl) (Nat.le_refl _) hlow (.int .i64 ((i : Int) + 1)) (hJ.new hJw (drew_new wr (nq + nq2)))
            have kk := kpK_t (kpK_t hkp (kpK_drewN wr (nq + nq2))) k1
            exact ⟨((hkf _).trans (keepsFrom_drewN _ wr (nq + nq2))).trans (k2 _), kk, p_close hbx hla' hlb' kk hra hrb hlo HIP.out k3 (Boxed.other (W := wr.drewN (nq + nq2)) hbj (by simp) _) hj k4 (by rw [HPJ.out, HR.out])⟩
      · obtain rfl : j = m := by omega
        gi_wp2
        refine round_quiet (by kernel_rfl) (by kernel_rfl) (by kernel_rfl) ?_ ?_
        · rintro ⟨_, _, h⟩; exact h
        repeat (go_big_quiet_step (fail))
        refine wpQuiet_nil ?_
        intro _ hw'
        obtain ⟨nq, hw''⟩ := hw'
        subst hw''
        gi_wp2
        refine ⟨(hkf _).trans (keepsFrom_drewN _ wr nq), rfl, .inl ?_⟩
        have hfin := HPJ.out
        rw [rest_end_right _ (by rw [HM.out]; exact Nat.le_refl _), List.append_nil] at hfin
        rw [hfin]
        exact hJ.new hJw (drew_new wr nq)
  case done =>
    rintro D X hD ⟨_, ⟨j, dn, ⟨_, hp⟩, _, hJd⟩, _⟩ hK
    rw [List.length_range, rest_end_left _ (by rw [HN.out]; exact Nat.le_refl _), List.append_nil] at hp
    gi_wp2
    refine ⟨by simp, .inl ⟨_, _, rfl, run_takeDeferred hK, ?_⟩⟩
    refine ⟨_, results_none rfl _ _ _, ⟨_, rfl⟩, .inl ?_⟩
    rw [hp]
    exact hJ.put (.deferred none) hJd (by rw [hsz5] at hD; omega) hK (.inl rfl)
  case stop =>
    rintro D cd pre post X hD _ ⟨rfl, hend⟩ hK
    gi_wp2
    refine ⟨by simp, .inl ⟨_, _, rfl, run_takeDeferred hK, ?_⟩⟩
    refine ⟨_, results_none rfl _ _ _, ⟨_, rfl⟩, ?_⟩
    rw [hsz5] at hD
    rcases hend with h | ⟨p, q, h1, h2⟩
    · exact .inl (hJ.put (.deferred none) h (by omega) hK (.inl rfl))
    · exact .inr ⟨p, q, h1, hJx.put (.deferred none) h2 (by omega) hK (.inl rfl)⟩

end Lc
end Go.Proofs.Ytjhjmfodpnipiaa

namespace Go.Proofs.Ytjhjmfodpnipiaa
open Go.RowKit Go.Shelf
set_option linter.unusedVariables false
namespace Lc
open Tx Rg
attribute [local go_sem] Oper.semAt_some

theorem info_pair : (Try.prog.info? 103).map (fun i => (i.zero, i.size, i.bytes)) = some (some (.agg #[.int .i64 0, .int .i64 0]), 2, 16) := by kernel_rfl

/-- The cells of pairs. -/
def cellsP (l : List (Nat × Nat)) : List Value := l.flatMap fun p => [.int .i64 (p.1 : Int), .int .i64 (p.2 : Int)]
theorem cellsP_snoc (l : List (Nat × Nat)) (p : Nat × Nat) : cellsP (l ++ [p]) = cellsP l ++ [.int .i64 (p.1 : Int), .int .i64 (p.2 : Int)] := by simp [cellsP]

/-- How Pairs ends. -/
def PairsEnd (w : World) (l : List (Nat × Nat)) (e : Ending) (w' : World) : Prop :=
  ∃ v, e = .returned v ∧ w'.ownsRow w.heap.size 103 2 v l.length (cellsP l) ∧ Below w.heap.size w w'

theorem freeI_not (c : Array Value) {t : TypeId} (ht : t ≠ 3) : ¬ FreeI (.cells c t (0, 0)) := by
  rintro (h | ⟨v, h⟩)
  · cases h
  · injection h with h1 h2; exact ht h2

def AllInv (w : World) (pre : List (Nat × Nat)) (W : World) : Prop :=
  (∃ v, Boxed W w.heap.size 101 v ∧ W.ownsRow w.heap.size 103 2 v pre.length (cellsP pre)) ∧ Below w.heap.size w W
theorem allInv_ab (w : World) {B : Nat} (hB : w.heap.size ≤ B) : Ab FreeI B (AllInv w) :=
  Ab.and (ab_ex fun v => Ab.and (ab_boxed (fun _ => v) (fun _ => freeI_not _ (by decide))) (ab_row _ _ (fun _ => freeI_not _ (by decide)))) (ab_below (Nat.le_refl _) hB)

/-- The block of a pair. -/
def PBlock (W : World) (b : Nat) (p : Nat × Nat) : Prop := W.heap[b]? = some (.cells #[.int .i64 (p.1 : Int), .int .i64 (p.2 : Int)] 103 (0, 0))
theorem pblock_ab {b B : Nat} {p : Nat × Nat} : Ab FreeI B (fun (_ : Unit) W => PBlock W b p) := fun s W W' row hs hg hr =>
  (hg.block b (Array.getElem?_eq_some_iff.1 hs).1 (fun e => by obtain ⟨_, o, ho, hf⟩ := hr b e.symm; rw [show W.heap[b]? = _ from hs] at ho; cases ho; exact freeI_not _ (by decide) hf)).trans hs
theorem PBlock.c0 {W : World} {b : Nat} {p : Nat × Nat} (h : PBlock W b p) : W.cell? ⟨b, 0, none⟩ = some (.int .i64 (p.1 : Int)) := by simp [World.cell?, show W.heap[b]? = _ from h]
theorem PBlock.c1 {W : World} {b : Nat} {p : Nat × Nat} (h : PBlock W b p) : W.cell? ⟨b, 1, none⟩ = some (.int .i64 (p.2 : Int)) := by simp [World.cell?, show W.heap[b]? = _ from h]

theorem kpP_alloc {n₁ B : Nat} (W : World) (o : Obj) (hn : n₁ ≤ W.heap.size) : KpP n₁ B W (W.alloc o) :=
  ⟨(Below.refl _ _).alloc hn o, fun k c t f h _ _ => (Below.heap_alloc W o k (Array.getElem?_eq_some_iff.1 h).1).trans h, (KeepsOthers.alloc W o).from B⟩
/-- Behind an append to the list of pairs. -/
theorem kpP_app {n₁ B b : Nat} {W w1 : World} {tmp : Obj} {v v' : Value} {n : Nat} {xs : List Value} (hn : n₁ ≤ W.heap.size) (hb : n₁ ≤ b) (hv : Boxed W b 101 v) (hrow : W.ownsRow n₁ 103 2 v n xs) (hgrow : (W.alloc tmp).grownBy w1 v.ownBlock) :
    KpP n₁ B W (w1.setCell ⟨b, 0, none⟩ v') := by
  have hrow' := hrow.alloc tmp
  have hv' := hv.alloc tmp
  have h1 : KpP n₁ B (W.alloc tmp) w1 := by
    refine ⟨(Below.refl _ _).grown hgrow (by simp; omega) (own_ge hrow'), fun k c t f h ht _ => ?_, (KeepsOthers.of_grownBy hgrow fun j o e ho => ?_).from B⟩
    · refine (hgrow.block k (Array.getElem?_eq_some_iff.1 h).1 (fun e => ?_)).trans h
      rcases hrow'.2 with ⟨rfl, _⟩ | ⟨g, cap, cur, rfl, _, hg, _⟩
      · simp [Value.ownBlock] at e
      · obtain rfl : k = g := by simpa [Value.ownBlock] using e
        rw [h] at hg; cases hg; exact ht rfl
    · rcases hrow'.2 with ⟨rfl, _⟩ | ⟨g, cap, cur, rfl, _, hg, _⟩
      · simp [Value.ownBlock] at e
      · obtain rfl : g = j := by simpa [Value.ownBlock] using e
        rw [hg] at ho; cases ho; rfl
  have hv1 : Boxed w1 b 101 v := hv'.kept hgrow (hv'.not_row (by decide) hrow')
  refine kpP_t (kpP_t (kpP_alloc W tmp hn) h1) ⟨(Below.refl _ _).setCell (p := ⟨b, 0, none⟩) hb _, fun k c t f h _ ht => ?_, (KeepsOthers.setCell _ _ _).from B⟩
  refine (Below.heap_setCell _ _ _ k (fun e => ?_)).trans h
  subst e
  rw [show w1.heap[k]? = _ from hv1] at h; cases h; exact ht rfl

theorem cells2_new (W : World) (x y : Value) (t : TypeId) : ∀ (j : Nat) (u : Value), [x, y][j]? = some u → (W.alloc (.cells #[x, y] t)).cell? ((⟨W.heap.size, 0, none⟩ : Addr).add j) = some u := by
  intro j u hu
  have h := World.alloc_heap_new W (.cells #[x, y] t)
  match j with
  | 0 => simp at hu; subst hu; rw [add_zero']; unfold World.cell?; rw [h]; rfl
  | 1 => simp at hu; subst hu; rw [show (⟨W.heap.size, 0, none⟩ : Addr).add 1 = ⟨W.heap.size, 1, none⟩ from rfl]; unfold World.cell?; rw [h]; rfl
  | j + 2 => simp at hu

set_option maxRecDepth 100000 in
set_option maxHeartbeats 2000000 in
theorem Pairs (A A' : Option Addr) (c c' n m B : Nat) (ls bs : List (List UInt8)) (w : World) (hn : ls.length = n) (hm : bs.length = m) (hnc : n ≤ c) (hln : n ≤ 1000) (hlm : m ≤ 1000) (hB : B ≤ w.heap.size)
    (hR : RdS w B A ls) (hR' : RdS w B A' bs) :
    Calls Try.prog 84 #[.slice A n c, .slice A' m c'] w (PairsEnd w (pairs ls bs)) := by
  obtain ⟨i0, hi, hz0, hz1, hz2⟩ := info_parts info_pair
  have HM := Lib.hid hm; clear hm
  have HN := Lib.hid hn; clear hn
  refine (callsIn_wide (n := 4)).1 ?_
  refine callsIn_of_wp_marks Try.func84 rfl trivial ?_ rfl
  simp only [Try.ntmps84, List.size_toArray, List.length_cons, List.length_nil, Nat.reduceAdd, Nat.reduceSub, Array.replicate_succ, Array.replicate_zero, List.push_toArray, List.append_toArray, List.nil_append, List.cons_append]
  gi_wp2_with fail
  refine ⟨trivial, ?_⟩
  refine (pairs_in 3 _ _ _ _ _ _ _).mono ?_
  rintro e w' ⟨rfl, rfl⟩
  gi_wp2
  have hb0 := ((Boxed.new w 101 (.slice none 0 0)).alloc (.cells #[.slice A n c] 33)).alloc (.cells #[.slice A' m c'] 33)
  have hb1 := (Boxed.new (w.alloc (.cells #[.slice none 0 0] 101)) 33 (.slice A n c)).alloc (.cells #[.slice A' m c'] 33)
  have hb2 := Boxed.new ((w.alloc (.cells #[.slice none 0 0] 101)).alloc (.cells #[.slice A n c] 33)) 33 (.slice A' m c')
  simp only [World.size_alloc] at hb1 hb2
  have hw3 : Below w.heap.size w (((w.alloc (.cells #[.slice none 0 0] 101)).alloc (.cells #[.slice A n c] 33)).alloc (.cells #[.slice A' m c'] 33)) := (((Below.refl _ _).alloc (Nat.le_refl _) _).alloc (by simp) _).alloc (by simp; omega) _
  have hsz : (((w.alloc (.cells #[.slice none 0 0] 101)).alloc (.cells #[.slice A n c] 33)).alloc (.cells #[.slice A' m c'] 33)).heap.size = w.heap.size + 3 := by simp
  have hplen := pairs_len ls bs
  have hpl2 := (lcs_le ls bs).1
  rw [HN.out] at hpl2
  have HPL : Hid ((pairs ls bs).length ≤ 1000) := Lib.hid (by omega)
  clear hplen hpl2
  refine range_law (n := 4) (gf := 108) (lb := #[.pointer (some ⟨w.heap.size + 1, 0, none⟩), .pointer (some ⟨w.heap.size + 1 + 1, 0, none⟩)]) rfl (enters_of Try.func108 (by kernel_rfl) rfl) (Free := FreeI) (fun _ h => .inl h)
    (pairs_gives w.heap.size (w.heap.size + 1) (w.heap.size + 1 + 1) n m c c' A A' ls bs HN.out HM.out hnc hln hlm _ hb1 hb2 (by rw [hsz]; omega) ((hR.up hB).below hw3) ((hR'.up hB).below hw3))
    kpP_t (kpP_b (by rw [hsz]; omega) (by omega)) (fun x vals W h => by subst h; rfl)
    (AllInv w) (fun _ _ _ => False) (allInv_ab w (by rw [hsz]; omega)) (fun _ => ab_pure _ _ _) ⟨⟨_, hb0, World.ownsRow_nil _ _ _ _⟩, hw3⟩
    (fun p a' X => ∃ b, a' = { tmps := #[.slice A n c, .slice A' m c', undef, undef, .slice none 0 0, .pointer (some ⟨w.heap.size, 0, none⟩), .pointer (some ⟨b, 0, none⟩), .slice A n c, .slice A' m c', .func (.func 108) #[] #[.pointer (some ⟨w.heap.size + 1, 0, none⟩), .pointer (some ⟨w.heap.size + 1 + 1, 0, none⟩)], pairV p, undef, undef, undef, undef, undef], defers := [] } ∧ PBlock X b p)
    (fun p a' => ab_ex fun b => Ab.and (ab_pure _ _ _) pblock_ab) ?assign ?body ?done ?stop
  case assign =>
    rintro l pre p vals X K ⟨⟨v, hv, hrow⟩, hBl⟩ rfl hK
    have hw := hBl.size
    gi_wp2
    refine hK _ _ ((KeepsOthers.alloc X _).from _) (kpP_alloc X _ hw) ⟨⟨v, hv.alloc _, hrow.alloc _⟩, hBl.alloc hw _⟩ ⟨_, rfl, ?_⟩
    exact World.alloc_heap_new X _
  case body =>
    rintro l pre post p a' X hfull ⟨⟨v, hv, hrow⟩, hBl⟩ ⟨b, rfl, hpb⟩
    have hlen : pre.length < 1000 := by have := HPL.out; rw [hfull] at this; simp at this; omega
    clear hfull
    have hc := hv.cell
    have hc0 := hpb.c0
    have hc1 := hpb.c1
    have hw := hBl.size
    gi_wp2_with (gi_at_builtin; refine wpListIn_append_own _ rfl _ _ 101 rfl w.heap.size 103 i0 (.agg #[.int .i64 0, .int .i64 0]) 2 16 Try.underlying101 hi hz0 hz1 hz2 rfl (by decide) _ _ _ rfl (hrow.alloc _) ⟨X.heap.size, 0, none⟩ 1 1 [.int .i64 (p.1 : Int), .int .i64 (p.2 : Int)] rfl rfl (cells2_new _ _ _ _) (by simp [Value.oneCell']) (by unfold maxLen; omega) (by omega) (by simp; omega) ?_; intro v' w1 hown' hgrow _; obtain ⟨g', cap', rfl⟩ := ownsRow_succ hown'; obtain ⟨hv1, hv2, hr2, hk2, hb2⟩ := hv.appended (by decide) hrow hBl.size (by omega) hown' hgrow; have hc1 := hv1.cell; have hf1 := hv1.frozen)
    refine ⟨hk2.from _, kpP_app hw (Nat.le_refl _) hv hrow hgrow, ⟨_, hv2, ?_⟩, hBl.trans hb2⟩
    rw [List.length_append, cellsP_snoc]
    exact hr2
  case done =>
    rintro D W hD ⟨⟨v, hv, hrow⟩, hBl⟩ hK
    have hc := hv.cell
    obtain ⟨Av, cv, rfl⟩ : ∃ A c, v = .slice A (pairs ls bs).length c := by
      rcases hrow.2 with ⟨rfl, h⟩ | ⟨g, cap, cur, rfl, _⟩
      · exact ⟨none, 0, by rw [h]⟩
      · exact ⟨_, _, rfl⟩
    gi_wp2
    refine ⟨by simp, .inl ⟨_, _, rfl, run_takeDeferred hK, ?_⟩⟩
    refine ⟨_, results_tmp rfl _ _ _, _, rfl, ownsRow_putObj hrow _ hK rfl, ?_⟩
    exact hBl.grown (grownBy_putObj' _ D _) hBl.size (fun j e => by cases e; rw [hsz] at hD; omega)
  case stop =>
    rintro D c pre post W _ _ h _
    exact h.elim

end Lc
end Go.Proofs.Ytjhjmfodpnipiaa
