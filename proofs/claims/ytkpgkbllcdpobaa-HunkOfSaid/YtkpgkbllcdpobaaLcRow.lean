/-
  Rows of what is had in common (plain), and what stepBack of layer 3 makes of a row (walk).
-/
import Derived.Test.YtkpgkbllcdpobaaLcPlain
import Derived.Test.YtkpgkbllcdpobaaLcBack
import Derived.Deep.QuietTactic
import Derived.BigQuiet
import Derived.StillTailTactics
import Derived.IntWalk
import Derived.Outline
namespace Go.Proofs.Ytkpgkbllcdpobaa
open Go.RowKit Go.Shelf
set_option linter.unusedVariables false
namespace Lc
open Tx Rg
attribute [local go_sem] Oper.semAt_some

section
variable {α : Type} [DecidableEq α]
/-- The row of a list: what it has in common with the other one, from each place on. -/
def rowV (a b : List α) : List Value := (List.range (b.length + 1)).map fun j => .int .i64 ((lcs a (b.drop j) : Nat) : Int)
/-- A row on its way: from place k on it is that with one line more. -/
def mixV (x : α) (a b : List α) (k : Nat) : List Value := (List.range (b.length + 1)).map fun j => .int .i64 ((if j < k then lcs a (b.drop j) else lcs (x :: a) (b.drop j) : Nat) : Int)
theorem rowV_length (a b : List α) : (rowV a b).length = b.length + 1 := by simp [rowV]
theorem mixV_length (x : α) (a b : List α) (k : Nat) : (mixV x a b k).length = b.length + 1 := by simp [mixV]
theorem rowV_at (a b : List α) {j : Nat} (h : j ≤ b.length) : (rowV a b)[j]? = some (.int .i64 ((lcs a (b.drop j) : Nat) : Int)) := by
  rw [rowV, List.getElem?_map, List.getElem?_range (by omega)]; rfl
theorem mixV_at (x : α) (a b : List α) (k : Nat) {j : Nat} (h : j ≤ b.length) : (mixV x a b k)[j]? = some (.int .i64 ((if j < k then lcs a (b.drop j) else lcs (x :: a) (b.drop j) : Nat) : Int)) := by
  rw [mixV, List.getElem?_map, List.getElem?_range (by omega)]; rfl
theorem mixV_top (x : α) (a b : List α) : mixV x a b b.length = rowV a b := by
  unfold mixV rowV
  refine List.map_congr_left fun j hj => ?_
  have hj' : j < b.length + 1 := by simpa using hj
  by_cases h : j < b.length
  · rw [if_pos h]
  · rw [if_neg h, List.drop_of_length_le (by omega), lcs_nil_right, lcs_nil_right]
theorem mixV_zero (x : α) (a b : List α) : mixV x a b 0 = rowV (x :: a) b := by
  unfold mixV rowV
  refine List.map_congr_left fun j _ => ?_
  rw [if_neg (by omega)]
theorem mixV_set (x : α) (a b : List α) {k : Nat} (h : k < b.length) : (mixV x a b (k + 1)).set k (.int .i64 ((lcs (x :: a) (b.drop k) : Nat) : Int)) = mixV x a b k := by
  refine List.ext_getElem? fun j => ?_
  rw [List.getElem?_set]
  by_cases hj : j ≤ b.length
  · rw [mixV_at _ _ _ _ hj, mixV_at _ _ _ _ hj]
    by_cases e : k = j
    · subst e; rw [if_pos rfl, if_pos (by rw [mixV_length]; omega), if_neg (by omega)]
    · rw [if_neg e]
      by_cases hlt : j < k
      · rw [if_pos hlt, if_pos (by omega)]
      · rw [if_neg hlt, if_neg (by omega)]
  · rw [if_neg (by omega), List.getElem?_eq_none (by rw [mixV_length]; omega), List.getElem?_eq_none (by rw [mixV_length]; omega)]
theorem lcs_step_same {x : α} (a : List α) {b : List α} {k : Nat} (h : k < b.length) (e : x = b[k]) : lcs (x :: a) (b.drop k) = lcs a (b.drop (k + 1)) + 1 := by
  rw [List.drop_eq_getElem_cons h, ← e, lcs_same]
theorem lcs_step_ne {x : α} (a : List α) {b : List α} {k : Nat} (h : k < b.length) (e : x ≠ b[k]) : lcs (x :: a) (b.drop k) = max (lcs a (b.drop k)) (lcs (x :: a) (b.drop (k + 1))) := by
  rw [List.drop_eq_getElem_cons h, lcs_ne _ _ e]
  split <;> omega
theorem lcs_len (a b : List α) (j : Nat) : lcs a (b.drop j) ≤ b.length := by
  have := (lcs_le a (b.drop j)).2; simp at this; omega
end

/-- How stepBack ends: the row is that with one line more; no other block of old is written. -/
def StepEnd (w : World) (n₁ g cap m : Nat) (x : List UInt8) (zs bs : List (List UInt8)) (e : Ending) (w' : World) : Prop :=
  (∃ v, e = .returned v) ∧ w'.ownsRow n₁ 3 1 (.slice (some ⟨g, 0, none⟩) (m + 1) cap) (m + 1) (rowV (x :: zs) bs) ∧ w.grownBy w' (some g)

/-- Between two rounds. -/
def StepInv (w : World) (n₁ g cap m : Nat) (x : List UInt8) (zs bs : List (List UInt8)) (pre : List (Nat × Value)) (W : World) : Prop :=
  (Boxed W w.heap.size 74 (.slice (some ⟨g, 0, none⟩) (m + 1) cap) ∧ Boxed W (w.heap.size + 1) 9 (strV x) ∧ Boxed W (w.heap.size + 1 + 1) 3 (.int .i64 ((lcs zs (bs.drop (m - pre.length)) : Nat) : Int))) ∧
    W.ownsRow n₁ 3 1 (.slice (some ⟨g, 0, none⟩) (m + 1) cap) (m + 1) (mixV x zs bs (m - pre.length)) ∧ w.grownBy W (some g)
theorem stepInv_ab (w : World) (n₁ g cap m : Nat) (x : List UInt8) (zs bs : List (List UInt8)) {B : Nat} (hB : w.heap.size ≤ B) : Ab Plain B (StepInv w n₁ g cap m x zs bs) :=
  Ab.and (Ab.and (ab_boxed _ (fun _ => plain_cells _ _ _)) (Ab.and (ab_boxed _ (fun _ => plain_cells _ _ _)) (ab_boxed _ (fun _ => plain_cells _ _ _)))) (Ab.and (ab_row _ _ (fun _ => plain_cells _ _ _)) (ab_grown hB))

theorem step_next {w W : World} {n₁ g cap m k : Nat} {x : List UInt8} {zs bs : List (List UInt8)} {pre : List (Nat × Value)} {v : Value} (hm : bs.length = m) (hp : pre.length + k + 1 = m) (hI : StepInv w n₁ g cap m x zs bs pre W) (hg : g < w.heap.size) (hn : n₁ ≤ g)
    {c : Int} (hc : c = ((lcs (x :: zs) (bs.drop k) : Nat) : Int)) :
    (∀ B, KeepsFrom B W ((W.setCell ⟨g, k, none⟩ (.int .i64 c)).setCell ⟨w.heap.size + 1 + 1, 0, none⟩ (.int .i64 ((lcs zs (bs.drop k) : Nat) : Int)))) ∧
      KpB n₁ (w.heap.size + 1 + 1 + 1) 22 W ((W.setCell ⟨g, k, none⟩ (.int .i64 c)).setCell ⟨w.heap.size + 1 + 1, 0, none⟩ (.int .i64 ((lcs zs (bs.drop k) : Nat) : Int))) ∧
      StepInv w n₁ g cap m x zs bs (pre ++ [(k, v)]) ((W.setCell ⟨g, k, none⟩ (.int .i64 c)).setCell ⟨w.heap.size + 1 + 1, 0, none⟩ (.int .i64 ((lcs zs (bs.drop k) : Nat) : Int))) := by
  subst hc
  obtain ⟨⟨h3, h4, h6⟩, hrow, hgr⟩ := hI
  have e1 : m - pre.length = k + 1 := by omega
  have e2 : m - (pre ++ [(k, v)]).length = k := by simp; omega
  rw [e1] at hrow
  obtain ⟨hr1, hg1⟩ := hrow.stored k (.int .i64 ((lcs (x :: zs) (bs.drop k) : Nat) : Int))
  rw [mixV_set _ _ _ (by omega)] at hr1
  have ne3 : w.heap.size ≠ g := by omega
  have k3 := h3.kept hg1 (by simp; omega)
  have k4 := h4.kept hg1 (by simp; omega)
  have k6 := h6.kept hg1 (by simp; omega)
  have hg2 := grownBy_setCell' (W.setCell ⟨g, k, none⟩ (.int .i64 ((lcs (x :: zs) (bs.drop k) : Nat) : Int))) (w.heap.size + 1 + 1) (.int .i64 ((lcs zs (bs.drop k) : Nat) : Int))
  refine ⟨fun B => ((KeepsOthers.setCell _ _ _).trans (KeepsOthers.setCell _ _ _)).from B, ⟨((Below.refl _ _).setCell (p := ⟨g, k, none⟩) hn _).setCell (p := ⟨w.heap.size + 1 + 1, 0, none⟩) (by show n₁ ≤ w.heap.size + 1 + 1; omega) _, fun u hu => (hu.kept hg1 (by simp; omega)).kept hg2 (by simp)⟩, ?_⟩
  unfold StepInv
  rw [e2]
  exact ⟨⟨k3.kept hg2 (by simp; omega), k4.kept hg2 (by simp), k6.set _⟩, hr1.kept hg2 (.inr (by simp [Value.ownBlock]; omega)), grow_trans (grow_trans hgr hg1 (fun j e => .inr (by simpa using e))) hg2 (fun j e => .inl (by cases e; omega))⟩

theorem grownBy_drew {w W : World} {r : Option Nat} (h : w.grownBy W r) : w.grownBy W.drew r := ⟨h.os, h.tape, h.output, h.size, h.block⟩
theorem keepsFrom_drew {B : Nat} {W X : World} (h : KeepsFrom B W X) : KeepsFrom B W X.drew := ⟨h.size, h.same⟩
theorem kpB_drew {n₁ Bs : Nat} {t : TypeId} {W X : World} (h : KpB n₁ Bs t W X) : KpB n₁ Bs t W X.drew := ⟨h.1.drew, h.2⟩
theorem stepInv_drew {w W : World} {n₁ g cap m : Nat} {x : List UInt8} {zs bs : List (List UInt8)} {pre : List (Nat × Value)} (h : StepInv w n₁ g cap m x zs bs pre W) : StepInv w n₁ g cap m x zs bs pre W.drew :=
  ⟨h.1, h.2.1, grownBy_drew h.2.2⟩

theorem boxes4 (w : World) (v0 v1 v2 v3 : Value) (t0 t1 t2 t3 : TypeId) :
    let w4 := (((w.alloc (.cells #[v0] t0)).alloc (.cells #[v1] t1)).alloc (.cells #[v2] t2)).alloc (.cells #[v3] t3)
    Boxed w4 w.heap.size t0 v0 ∧ Boxed w4 (w.heap.size + 1) t1 v1 ∧ Boxed w4 (w.heap.size + 1 + 1) t2 v2 ∧ Boxed w4 (w.heap.size + 1 + 1 + 1) t3 v3 ∧ w.grownBy w4 none := by
  intro w4
  have b0 := Boxed.new w t0 v0
  have b1 := Boxed.new (w.alloc (.cells #[v0] t0)) t1 v1
  have b2 := Boxed.new ((w.alloc (.cells #[v0] t0)).alloc (.cells #[v1] t1)) t2 v2
  have b3 := Boxed.new (((w.alloc (.cells #[v0] t0)).alloc (.cells #[v1] t1)).alloc (.cells #[v2] t2)) t3 v3
  simp only [World.size_alloc] at b1 b2 b3
  exact ⟨((b0.alloc _).alloc _).alloc _, (b1.alloc _).alloc _, b2.alloc _, b3,
    grow_trans (grow_trans (grow_trans (World.grownBy_alloc w _ none) (World.grownBy_alloc _ _ none) (by simp)) (World.grownBy_alloc _ _ none) (by simp)) (World.grownBy_alloc _ _ none) (by simp)⟩

set_option maxRecDepth 100000 in
set_option maxHeartbeats 2000000 in
theorem stepBack (A' : Option Addr) (c' m n₁ g cap : Nat) (x : List UInt8) (zs bs : List (List UInt8)) (w : World) (hm : bs.length = m) (hle : m ≤ 1000) (hR : RdS w n₁ A' bs) (hn : n₁ ≤ w.heap.size)
    (hrow : w.ownsRow n₁ 3 1 (.slice (some ⟨g, 0, none⟩) (m + 1) cap) (m + 1) (rowV zs bs)) :
    Calls Try.prog 65 #[.slice (some ⟨g, 0, none⟩) (m + 1) cap, strV x, .slice A' m c'] w (StepEnd w n₁ g cap m x zs bs) := by
  have HM := Lib.hid hm; clear hm
  obtain ⟨hng, hgw⟩ := hrow.lt g rfl
  refine (callsIn_wide (n := 3)).1 ?_
  refine callsIn_of_wp_marks Try.func65 rfl trivial ?_ rfl
  simp only [Try.ntmps65, List.size_toArray, List.length_cons, List.length_nil, Nat.reduceAdd, Nat.reduceSub, Array.replicate_succ, Array.replicate_zero, List.push_toArray, List.append_toArray, List.nil_append, List.cons_append]
  gi_wp2_with fail
  refine ⟨trivial, ?_⟩
  refine (backS_in 2 _ _ _ _).mono ?_
  rintro e w' ⟨rfl, rfl⟩
  gi_wp2
  obtain ⟨hB0, hB1, hB2, hB3, hg4⟩ := boxes4 w (.slice (some ⟨g, 0, none⟩) (m + 1) cap) (strV x) (.int .i64 0) (.slice A' m c') 74 9 3 22
  refine range_law' (n := 3) (gf := 66) (lb := #[.pointer (some ⟨w.heap.size + 1 + 1 + 1, 0, none⟩)]) rfl (enters_of Try.func66 (by kernel_rfl) rfl) (Free := Plain) (fun _ h => h)
    (backS_gives 2 (w.heap.size + 1 + 1 + 1) n₁ c' m A' (bs.map strV) (by simpa using HM.out) (by omega) _ hB3 (by simp; omega) (hR.below ((Below.refl _ _).grown hg4 hn (by simp)))) kpB_t (kpB_b (by simp; omega) (by simp)) kpB_r (fun _ => rfl)
    (StepInv w n₁ g cap m x zs bs) (fun _ _ _ => False) (stepInv_ab _ _ _ _ _ _ _ _ (by simp; omega)) (fun _ => ab_pure _ _ _) ?h0 ?a1 ?assign ?body ?done ?stop
  case h0 =>
    refine ⟨⟨hB0, hB1, ?_⟩, ?_, grow_trans (World.grownBy.refl _ _) hg4 (by simp)⟩
    · rw [List.length_nil, Nat.sub_zero, List.drop_of_length_le (by rw [HM.out]; exact Nat.le_refl _), lcs_nil_right]; exact hB2
    · rw [List.length_nil, Nat.sub_zero, ← HM.out, mixV_top, HM.out]; exact hrow.kept hg4 (.inr (by simp [Value.ownBlock]))
  case assign =>
    intro l x W K hK
    gi_wp2
    exact hK
  case body =>
    rintro l pre post ⟨k, v⟩ W hfull hI
    obtain ⟨hk, hv, hp⟩ := bk_split hfull
    dsimp only at hk hv hp
    clear hfull
    have hkb : k < bs.length := by simpa using hk
    have hkm : k < m := by rw [HM.out] at hkb; exact hkb
    obtain rfl : v = strV bs[k] := by rw [← hv]; simp
    clear hv hk
    rw [List.length_map, HM.out] at hp
    have hs := hrow.1
    obtain ⟨⟨h3, h4, h6⟩, hrw, hgr⟩ := id hI
    have HI := Lib.hid hI; clear hI
    have e1 : m - pre.length = k + 1 := by omega
    rw [e1] at hrw h6
    have hc3 := h3.cell
    have hc4 := h4.cell
    have hc6 := h6.cell
    have hf6 := h6.frozen
    have hck := hrw.cellAt k (by omega)
    have hck1 := hrw.cellAt (k + 1) (by omega)
    rw [mixV_at _ _ _ _ (by omega), if_pos (by omega)] at hck
    rw [mixV_at _ _ _ _ (by omega), if_neg (by omega)] at hck1
    have hfk := hrw.frozenAt k
    have hlk := lcs_len zs bs k
    have hlk1 := lcs_len zs bs (k + 1)
    have hlk2 := lcs_len (x :: zs) bs (k + 1)
    rw [HM.out] at hlk hlk1 hlk2
    have HP := Lib.hid hp; clear hp e1 hs h3 h4 h6 hrw hgr
    by_cases hxy : x = bs[k]
    · have HS := Lib.hid (lcs_step_same zs hkb hxy)
      have hd : (x == bs[k]) = true := by simpa using hxy
      generalize bs[k] = y at *
      clear hxy
      generalize hq : lcs zs (bs.drop (k + 1)) = q at *
      have HQ := Lib.hid hq; clear hq
      generalize hq0 : lcs zs (bs.drop k) = q0 at *
      have HQ0 := Lib.hid hq0; clear hq0
      gi_wp2
      have hend := step_next (v := strV y) HM.out HP.out HI.out hgw hng (c := (q : Int) + 1) (by rw [HS.out]; omega)
      rw [HQ0.out] at hend
      exact ⟨hend.1 _, hend.2⟩
    · have HS := Lib.hid (lcs_step_ne zs hkb hxy)
      have hd : (x == bs[k]) = false := by simpa using hxy
      generalize bs[k] = y at *
      clear hxy
      generalize hq : lcs (x :: zs) (bs.drop (k + 1)) = q at *
      have HQ := Lib.hid hq; clear hq
      generalize hq0 : lcs zs (bs.drop k) = q0 at *
      have HQ0 := Lib.hid hq0; clear hq0
      have hk1 : IntKind.i64.wrap ((k : Int) + 1) = (k : Int) + 1 := IntWalk.i64_in _ (by omega)
      gi_wp2
      have h0 : (0 : Int) ≤ (k : Int) + 1 := by omega
      have h1 : ((k : Int) + 1).toNat = k + 1 := by omega
      have h2 : (k : Int) + 1 < (m : Int) + 1 := by omega
      have h3 : (k : Int) < (m : Int) + 1 := by omega
      refine round_still 10 (by kernel_rfl) (by kernel_rfl) (by kernel_rfl) ?hq ?_
      case hq => rintro ⟨_, _, h⟩; exact h
      simp only [List.take_succ_cons, List.take_zero, List.drop_succ_cons, List.drop_zero]
      repeat still_step
      refine wpStill_nil ?_
      generalize hc : (if q0 < q then (q : Int) else (q0 : Int)) = c
      have HC := Lib.hid hc; clear hc h0 h1 h2 h3 hk1
      change wpList _ _ _ _ _ W.drew
      go_wp2
      gi_wp2
      have hend := step_next (v := strV y) HM.out HP.out HI.out hgw hng (c := c) (by rw [HS.out, ← HC.out]; split <;> omega)
      rw [HQ0.out] at hend
      exact ⟨keepsFrom_drew (hend.1 _), kpB_drew hend.2.1, stepInv_drew hend.2.2⟩
  case done =>
    rintro D W hD ⟨_, hrow', hgr⟩ hK
    gi_wp2
    refine ⟨by simp, .inl ⟨_, _, rfl, run_takeDeferred hK, ?_⟩⟩
    refine ⟨_, results_none rfl _ _ _, ⟨_, rfl⟩, ?_, ?_⟩
    · have := ownsRow_putObj hrow' (.deferred none) hK rfl
      rw [bk_length, List.length_map, HM.out, Nat.sub_self, mixV_zero] at this
      exact this
    · exact grow_trans hgr (grownBy_putObj' _ D _) (fun j e => .inl (by cases e; simp at hD; omega))
  case stop =>
    rintro D c pre post W _ _ h _
    exact h.elim

end Lc
end Go.Proofs.Ytkpgkbllcdpobaa
