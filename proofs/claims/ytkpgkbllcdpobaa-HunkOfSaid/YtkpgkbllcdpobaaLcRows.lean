/-
  What rows of layer 3 gives (walk): for each place of a list the row from it on, and the one from the next place on.
-/
import Derived.Test.YtkpgkbllcdpobaaLcTable
namespace Go.Proofs.Ytkpgkbllcdpobaa
open Go.RowKit Go.Shelf
set_option linter.unusedVariables false
namespace Lc
open Tx Rg
attribute [local go_sem] Oper.semAt_some

/-- The address leads to the cells xs, in a block that K says is kept; or there are none. -/
def Held (K : Nat → TypeId → Prop) (W : World) (A : Option Addr) (xs : List Value) : Prop :=
  xs = [] ∨ ∃ a c t f, A = some a ∧ W.heap[a.block]? = some (.cells c t f) ∧ K a.block t ∧ ∀ j u, xs[j]? = some u → W.cell? (a.add j) = some u
/-- What lies below n₁ is kept, and each block of cells that K says so. -/
def KpK (n₁ : Nat) (K : Nat → TypeId → Prop) (W W' : World) : Prop := Below n₁ W W' ∧ ∀ k c t f, W.heap[k]? = some (.cells c t f) → K k t → W'.heap[k]? = some (.cells c t f)

section
variable {K : Nat → TypeId → Prop} {n₁ : Nat} {W W' : World}
theorem kpK_t {A B C : World} (h : KpK n₁ K A B) (k : KpK n₁ K B C) : KpK n₁ K A C := ⟨h.1.trans k.1, fun i c t f h1 h2 => k.2 i c t f (h.2 i c t f h1 h2) h2⟩
theorem kpK_r (W : World) : KpK n₁ K W W := ⟨Below.refl _ _, fun _ _ _ _ h _ => h⟩
theorem kpK_b {l : Nat} (hn : n₁ ≤ l) (W : World) (o o' : Obj) (h : W.heap[l]? = some o) (hc : o.isCells = false) : KpK n₁ K W (W.putObj l o') :=
  ⟨(Below.refl n₁ W).grown (grownBy_putObj' W l o') (by have := (Array.getElem?_eq_some_iff.1 h).1; omega) (fun k e => by cases e; exact hn), fun k c t f h1 _ => by
    by_cases e : k = l
    · subst e; rw [h] at h1; cases h1; cases hc
    · exact (World.putObj_heap_other e).trans h1⟩
theorem kpK_new (hn : n₁ ≤ W.heap.size) (h : Below W.heap.size W W') : KpK n₁ K W W' := ⟨h.mono hn, fun k c t f h1 _ => (h.block k (Array.getElem?_eq_some_iff.1 h1).1).trans h1⟩
theorem kpK_drew (hn : n₁ ≤ W.heap.size) (h : Below W.heap.size W.drew W') : KpK n₁ K W W' := kpK_new hn ⟨h.os, h.tape, h.output, h.size, h.block⟩
theorem Held.kp {A : Option Addr} {xs : List Value} (h : Held K W A xs) (hk : KpK n₁ K W W') : Held K W' A xs := by
  rcases h with h | ⟨a, c, t, f, h1, h2, h3, h4⟩
  · exact .inl h
  · have h5 := hk.2 _ c t f h2 h3
    exact .inr ⟨a, c, t, f, h1, h5, h3, fun j u hu => (World.cell?_of_block (w := W) (a := a.add j) (by rw [add_block]; exact h5.trans h2.symm)).trans (h4 j u hu)⟩
theorem Held.rd {A : Option Addr} {xs : List Value} (h : Held K W A xs) : Rd W W.heap.size A xs := by
  rcases h with h | ⟨a, c, t, f, h1, h2, h3, h4⟩
  · exact .inl h
  · exact .inr ⟨a, h1, (Array.getElem?_eq_some_iff.1 h2).1, h4⟩
theorem held_own {base : Nat} {e : TypeId} {g n cap : Nat} {xs : List Value} (h : W.ownsRow base e 1 (.slice (some ⟨g, 0, none⟩) n cap) n xs) (hK : ∀ k, base ≤ k → K k e) : Held K W (some ⟨g, 0, none⟩) xs := by
  rcases h.2 with ⟨h', _⟩ | ⟨g', cap', cur, h', hb, hg, hc, _, hcs, ht⟩
  · cases h'
  · simp only [Value.slice.injEq, Option.some.injEq, Addr.mk.injEq, and_true, true_and] at h'
    obtain ⟨rfl, rfl⟩ := h'
    exact .inr ⟨_, cur, e, (0, 0), rfl, hg, hK _ hb, h.cells rfl⟩
theorem held_own' {base : Nat} {e : TypeId} {v : Value} {n : Nat} {xs : List Value} (h : W.ownsRow base e 1 v n xs) (hK : ∀ k, base ≤ k → K k e) : ∃ A c, v = .slice A n c ∧ n ≤ c ∧ Held K W A xs := by
  rcases h.2 with ⟨rfl, rfl⟩ | ⟨g, cap, cur, rfl, hb, hg, hc, _⟩
  · exact ⟨none, 0, rfl, Nat.le_refl _, .inl (List.eq_nil_of_length_eq_zero (by simpa using h.1))⟩
  · exact ⟨_, cap, rfl, hc, held_own h hK⟩
theorem box_kp {b : Nat} {t : TypeId} {v : Value} (h : Boxed W b t v) (hK : K b t) (hk : KpK n₁ K W W') : Boxed W' b t v := hk.2 _ _ _ _ h hK

/-- A value that reads as a row. -/
def RowH (K : Nat → TypeId → Prop) (W : World) (u : Value) (xs : List Value) : Prop := ∃ A c, u = .slice A xs.length c ∧ Held K W A xs
theorem RowH.kp {u : Value} {xs : List Value} (h : RowH K W u xs) (hk : KpK n₁ K W W') : RowH K W' u xs := let ⟨A, c, e, h⟩ := h; ⟨A, c, e, h.kp hk⟩
/-- A table: rows f 0 to f np. -/
def TabOk (K : Nat → TypeId → Prop) (W : World) (g np : Nat) (f : Nat → List Value) : Prop := ∃ tv : List Value, Held K W (some ⟨g, 0, none⟩) tv ∧ ∀ k, k ≤ np → ∃ u, tv[k]? = some u ∧ RowH K W u (f k)
theorem TabOk.kp {g np : Nat} {f : Nat → List Value} (h : TabOk K W g np f) (hk : KpK n₁ K W W') : TabOk K W' g np f := let ⟨tv, h1, h2⟩ := h; ⟨tv, h1.kp hk, fun k h => let ⟨u, h3, h4⟩ := h2 k h; ⟨u, h3, h4.kp hk⟩⟩
theorem TabOk.at_ {g np : Nat} {f : Nat → List Value} (h : TabOk K W g np f) {k : Nat} (hk : k ≤ np) : ∃ u, W.cell? ⟨g, k, none⟩ = some u ∧ RowH K W u (f k) := by
  obtain ⟨tv, h1, h2⟩ := h
  obtain ⟨u, h3, h4⟩ := h2 k hk
  refine ⟨u, ?_, h4⟩
  rcases h1 with rfl | ⟨a, c, t, fz, e, _, _, h5⟩
  · simp at h3
  · injection e with e; subst e
    have := h5 k u h3
    have e1 : (⟨g, 0, none⟩ : Addr).add k = ⟨g, k, none⟩ := by unfold Addr.add; split <;> simp_all
    rwa [e1] at this
end

theorem grown_of_drew {W W' : World} (h : Below W.heap.size W.drew W') : W.grownBy W' none := ⟨h.os, h.tape, h.output, h.size, fun k hk _ => h.block k hk⟩
theorem tabOk_of_end {K : Nat → TypeId → Prop} {w W : World} {m np g cap : Nat} {last : Value} {ps : List (List (List UInt8))} {zs bs : List (List UInt8)} {tv : List Value} (hm : bs.length = m) (hnp : ps.length = np)
    (hrow : W.ownsRow w.heap.size 74 1 (.slice (some ⟨g, 0, none⟩) (np + 1) cap) (np + 1) tv) (hl : tv[np]? = some last)
    (hall : ∀ k, k < np → ∃ v, tv[k]? = some v ∧ W.ownsRow w.heap.size 3 1 v (m + 1) (rowV ((ps.drop k).flatten ++ zs) bs)) (hlast : RowH K W last (rowV zs bs)) (hK : ∀ k, w.heap.size ≤ k → K k 74 ∧ K k 3) :
    TabOk K W g np (fun k => rowV ((ps.drop k).flatten ++ zs) bs) := by
  refine ⟨tv, held_own hrow (fun k h => (hK k h).1), fun k hk => ?_⟩
  by_cases e : k = np
  · subst e
    refine ⟨last, hl, ?_⟩
    show RowH K W last (rowV ((ps.drop k).flatten ++ zs) bs)
    rw [List.drop_of_length_le (by omega), List.flatten_nil, List.nil_append]
    exact hlast
  · obtain ⟨v, h1, h2⟩ := hall k (by omega)
    obtain ⟨A, c, rfl, _, h3⟩ := held_own' h2 (fun k h => (hK k h).2)
    exact ⟨_, h1, A, c, by rw [rowV_length, hm], h3⟩

theorem TabOk.congr {K : Nat → TypeId → Prop} {W : World} {g np : Nat} {f f' : Nat → List Value} (h : TabOk K W g np f) (e : ∀ k, k ≤ np → f k = f' k) : TabOk K W g np f' := let ⟨tv, h1, h2⟩ := h; ⟨tv, h1, fun k hk => let ⟨u, h3, h4⟩ := h2 k hk; ⟨u, h3, e k hk ▸ h4⟩⟩
theorem flat_one {α : Type} (l : List α) (i : Nat) : ((l.map fun x => [x]).drop i).flatten = l.drop i := by
  rw [← List.map_drop]
  induction l.drop i with
  | nil => rfl
  | cons x l ih => rw [List.map_cons, List.flatten_cons, ih]; rfl
theorem flat_split {α : Type} (ps : List (List α)) (k : Nat) : (ps.drop k).flatten = ps.flatten.drop ((ps.take k).flatten).length := by
  conv => rhs; rw [← List.take_append_drop k ps, List.flatten_append]
  simp
theorem off_succ {α : Type} {ps : List (List α)} {k : Nat} (h : k < ps.length) : ((ps.take (k + 1)).flatten).length = ((ps.take k).flatten).length + ps[k].length := by
  rw [take_snoc' h, List.flatten_append]; simp
theorem off_le {α : Type} (ps : List (List α)) (k : Nat) : ((ps.take k).flatten).length ≤ ps.flatten.length := by
  conv => rhs; rw [← List.take_append_drop k ps, List.flatten_append]
  simp
theorem near_eq {α : Type} {ps : List (List α)} {k i : Nat} (h : k < ps.length) (hi : i ≤ ps[k].length) : ((ps[k].map fun x => [x]).drop i).flatten ++ (ps.drop (k + 1)).flatten = ps.flatten.drop (((ps.take k).flatten).length + i) := by
  have e : ps.flatten.drop (((ps.take k).flatten).length + i) = (ps.flatten.drop ((ps.take k).flatten).length).drop i := (List.drop_drop ..).symm
  rw [e, ← flat_split, flat_one, List.drop_eq_getElem_cons h, List.flatten_cons, List.drop_append_of_le_length hi]
theorem range_split {n i : Nat} (h : i < n) : ∃ post, List.range n = List.range i ++ i :: post := by
  refine ⟨(List.range n).drop (i + 1), ?_⟩
  conv => lhs; rw [← List.take_append_drop i (List.range n)]
  rw [List.take_range, Nat.min_eq_left (by omega), List.drop_eq_getElem_cons (by simpa using h)]
  simp

theorem ch_len {α : Type} (sz : Nat) (ls : List α) : ∀ (f i : Nat), ls.length - i ≤ f → (ch sz ls i).length ≤ ls.length - i
  | f, i, hf => by
    unfold ch
    split
    · rename_i h
      cases f with
      | zero => omega
      | succ f => have := ch_len sz ls f (i + sz) (by omega); simp only [List.length_cons]; omega
    · simp
theorem len_flatten {α : Type} {ps : List (List α)} {p : List α} (h : p ∈ ps) : p.length ≤ ps.flatten.length := by
  obtain ⟨s, t, rfl⟩ := List.append_of_mem h
  simp; omega

theorem rows_in (n : Nat) (A A' : Option Addr) (l c l' c' : Nat) (w : World) :
    CallsIn Fence.wide n Try.prog 49 #[.slice A l c, .slice A' l' c'] w fun e w' => e = .returned (.func (.func 51) #[] #[.pointer (some ⟨w.heap.size, 0, none⟩), .pointer (some ⟨w.heap.size + 1, 0, none⟩)]) ∧ w' = (w.alloc (.cells #[.slice A l c] 22)).alloc (.cells #[.slice A' l' c'] 22) := by
  refine callsIn_of_wp Try.func49 rfl trivial ?_ rfl
  simp only [Try.ntmps49, List.size_toArray, List.length_cons, List.length_nil, Nat.reduceAdd, Nat.reduceSub, Array.replicate_succ, Array.replicate_zero, List.push_toArray, List.append_toArray, List.nil_append, List.cons_append]
  gi_wp2
  go_ret
  exact ⟨rfl, rfl⟩

/-- What stays while rows is gone through. -/
structure REnv (K : Nat → TypeId → Prop) (n₁ Ba Bb : Nat) (va vb : Value) (A A' : Option Addr) (ls bs : List (List UInt8)) (W : World) : Prop where
  ba : Boxed W Ba 22 va
  bb : Boxed W Bb 22 vb
  ra : RdS W n₁ A ls
  rb : RdS W n₁ A' bs
  lo : n₁ ≤ W.heap.size
theorem REnv.kp {K : Nat → TypeId → Prop} {n₁ Ba Bb : Nat} {va vb : Value} {A A' : Option Addr} {ls bs : List (List UInt8)} {W W' : World} (h : REnv K n₁ Ba Bb va vb A A' ls bs W) (ha : K Ba 22) (hb : K Bb 22) (hk : KpK n₁ K W W') : REnv K n₁ Ba Bb va vb A A' ls bs W' :=
  ⟨box_kp h.ba ha hk, box_kp h.bb hb hk, h.ra.below hk.1, h.rb.below hk.1, Nat.le_trans h.lo hk.1.size⟩
/-- .. with the parts and the rows from each of them on. -/
structure FEnv (K : Nat → TypeId → Prop) (n₁ Ba Bb : Nat) (va vb : Value) (A A' Av : Option Addr) (ls bs : List (List UInt8)) (vs : List Value) (ps : List (List (List UInt8))) (g np : Nat) (W : World) : Prop where
  env : REnv K n₁ Ba Bb va vb A A' ls bs W
  hv : Held K W Av vs
  hp : Parts W n₁ vs ps
  far : TabOk K W g np (fun k => rowV ((ps.drop k).flatten) bs)
theorem FEnv.kp {K : Nat → TypeId → Prop} {n₁ Ba Bb g np : Nat} {va vb : Value} {A A' Av : Option Addr} {ls bs : List (List UInt8)} {vs : List Value} {ps : List (List (List UInt8))} {W W' : World} (h : FEnv K n₁ Ba Bb va vb A A' Av ls bs vs ps g np W) (ha : K Ba 22) (hb : K Bb 22) (hk : KpK n₁ K W W') : FEnv K n₁ Ba Bb va vb A A' Av ls bs vs ps g np W' :=
  ⟨h.env.kp ha hb hk, h.hv.kp hk, h.hp.below hk.1, h.far.kp hk⟩

/-- As which values a place is handed over: the row from it on, and the one from the next place on. -/
def ERow (K : Nat → TypeId → Prop) (ls bs : List (List UInt8)) (i : Nat) (vals : Array Value) (W : World) : Prop :=
  ∃ v1 v2, vals = #[v1, v2] ∧ RowH K W v1 (rowV (ls.drop i) bs) ∧ RowH K W v2 (rowV (ls.drop (i + 1)) bs)

set_option maxRecDepth 100000 in
set_option maxHeartbeats 4000000 in
theorem rows1_in (d l n₁ Ba Bb n m c c' : Nat) (K : Nat → TypeId → Prop) (A A' : Option Addr) (ls bs : List (List UInt8)) (hn : ls.length = n) (hm : bs.length = m) (hnc : n ≤ c) (hln : n ≤ 1000) (hlm : m ≤ 1000) (J Jx : List Nat → World → Prop) (W : World)
    (hKa : K Ba 22) (hKb : K Bb 22) (hKn : ∀ k, W.heap.size ≤ k → K k 74 ∧ K k 3 ∧ K k 22)
    (hJn : ∀ s W W', J s W → W.grownBy W' none → J s W')
    (hY : ∀ pre x post vals W1, List.range n = pre ++ x :: post → J pre W1 → ERow K ls bs x vals W1 → YieldAt Fence.wide (d - 1) Try.prog l vals W1 fun e W' =>
      (e = .returned (.bool true) ∧ J (pre ++ [x]) W' ∧ KpK n₁ K W1 W') ∨ (e = .returned (.bool false) ∧ Jx (pre ++ [x]) W'))
    (hE : REnv K n₁ Ba Bb (.slice A n c) (.slice A' m c') A A' ls bs W) (h0 : J [] W) :
    CallsIn Fence.wide d Try.prog 51 #[.func (.yield l) #[] #[], .pointer (some ⟨Ba, 0, none⟩), .pointer (some ⟨Bb, 0, none⟩)] W fun e W' => (∃ v, e = .returned v) ∧ (J (List.range n) W' ∨ ∃ pre post, List.range n = pre ++ post ∧ Jx pre W') := by
  have HM := Lib.hid hm; clear hm
  have HN := Lib.hid hn; clear hn
  have HKn := Lib.hid hKn; clear hKn
  refine callsIn_of_wp Try.func51 rfl trivial ?_ rfl
  simp only [Try.ntmps51, List.size_toArray, List.length_cons, List.length_nil, Nat.reduceAdd, Nat.reduceSub, Array.replicate_succ, Array.replicate_zero, List.push_toArray, List.append_toArray, List.nil_append, List.cons_append]
  gi_wp2
  have hc1 := hE.ba.cell
  refine wpIn_wide.2 ?_
  refine wp_region_held_drew (S := fun X : World => X.cell? ⟨Ba, 0, none⟩ = some (.slice A n c)) (by kernel_rfl) hc1 (fun hS0 => ?_)
  refine wpAnyH_take (i := 0) (v := ?_) rfl (by kernel_rfl) (by kernel_rfl) (by kernel_rfl) (fun _ _ _ h => h) (Or.inl ⟨by rfl, ?_⟩) hS0 ?_
  rotate_left
  · intro X hX
    obtain hX1 := hX
    go_simp
    try with_reducible rfl
  simp only [Act.put]
  refine wpAnyH_take (i := 1) (v := ?_) rfl (by kernel_rfl) (by kernel_rfl) (by kernel_rfl) (fun _ _ _ h => h) (Or.inl ⟨by rfl, ?_⟩) hS0 ?_
  rotate_left
  · intro X hX
    obtain hX1 := hX
    go_simp
    try with_reducible rfl
  simp only [Act.put]
  refine wpAnyH_take (i := 2) (v := ?_) rfl (by kernel_rfl) (by kernel_rfl) (by kernel_rfl) (fun _ _ _ h => h) (Or.inl ⟨by rfl, ?_⟩) hS0 ?_
  rotate_left
  · intro X hX
    obtain hX1 := hX
    go_simp
    try with_reducible rfl
  simp only [Act.put]
  refine wpAnyH_ready (rs := [3]) (by kernel_rfl) (by simp) ?_
  refine AllReadyH.cons rfl (fun K' hK' => ?_) AllReadyH.nil
  go_simp
  refine (Root n W.drew hln).mono ?_
  rintro e w' ⟨⟨r, hr1, hr2, rfl⟩, rfl⟩
  refine hK'.out _ _ hS0 (fun _ => ?_)
  clear hK' K'
  refine wpAnyH_ready (rs := [4]) (by kernel_rfl) (by simp) ?_
  refine AllReadyH.cons rfl (fun K' hK' => ?_) AllReadyH.nil
  go_simp
  refine (Cut A c n r n₁ ls W.drew HN.out hnc hln hr1 hr2 hE.lo hE.ra).mono ?_
  rintro e W1 ⟨v, vs, rfl, hrow1, hparts, hb1⟩
  obtain ⟨Av, cv, rfl, hcv, hheld⟩ := held_own' (K := K) hrow1 (fun k h => (HKn.out k h).2.2)
  have hk1 : KpK n₁ K W W1 := kpK_drew hE.lo hb1
  have hE1 := hE.kp hKa hKb hk1
  have hs1 : W.heap.size ≤ W1.heap.size := hk1.1.size
  have hJ1 : J [] W1 := hJn _ _ _ h0 (grown_of_drew hb1)
  refine hK'.out _ _ hE1.ba.cell (fun hS0 => ?_)
  clear hK' K'
  refine wpAnyH_take (i := 5) (v := ?_) rfl (by kernel_rfl) (by kernel_rfl) (by kernel_rfl) (fun _ _ _ h => h) (Or.inl ⟨by rfl, ?_⟩) hS0 ?_
  rotate_left
  · intro X hX
    obtain hX1 := hX
    go_simp
    try with_reducible rfl
  simp only [Act.put]
  refine wpAnyH_done (by kernel_rfl) ?_ _
  simp only [List.getElem_toArray, List.getElem_cons_succ, List.getElem_cons_zero, List.setIfInBounds_toArray, List.set_cons_succ, List.set_cons_zero]
  clear hS0 hrow1 hc1 hE h0 hb1 hk1
  have hflat : (ch r ls 0).flatten = ls := by rw [ch_join (by omega) ls n 0 (by rw [HN.out]; omega)]; rfl
  have hnps := ch_len r ls n 0 (by rw [HN.out]; omega)
  generalize hps : ch r ls 0 = ps at *
  clear hps
  rw [HN.out] at hnps
  obtain ⟨np, hnp⟩ : ∃ np, ps.length = np := ⟨_, rfl⟩
  rw [hnp] at hnps ⊢
  have HNP := Lib.hid hnp; clear hnp
  have HF := Lib.hid hflat; clear hflat
  have hle : ∀ p ∈ ps, p.length ≤ 1000 := fun p hp => by have := len_flatten hp; rw [HF.out, HN.out] at this; omega
  gi_wp2
  have hc2 := hE1.bb.cell
  refine wpIn_wide.2 ?_
  refine wp_region_held_drew (S := fun X : World => X.cell? ⟨Bb, 0, none⟩ = some (.slice A' m c')) (by kernel_rfl) hc2 (fun hS0 => ?_)
  refine wpAnyH_take (i := 0) (v := ?_) rfl (by kernel_rfl) (by kernel_rfl) (by kernel_rfl) (fun _ _ _ h => h) (Or.inl ⟨by rfl, ?_⟩) hS0 ?_
  rotate_left
  · intro X hX
    obtain hX1 := hX
    go_simp
    try with_reducible rfl
  simp only [Act.put]
  refine wpAnyH_take (i := 1) (v := ?_) rfl (by kernel_rfl) (by kernel_rfl) (by kernel_rfl) (fun _ _ _ h => h) (Or.inl ⟨by rfl, ?_⟩) hS0 ?_
  rotate_left
  · intro X hX
    obtain hX1 := hX
    go_simp
    try with_reducible rfl
  simp only [Act.put]
  refine wpAnyH_take (i := 2) (v := ?_) rfl (by kernel_rfl) (by kernel_rfl) (by kernel_rfl) (fun _ _ _ h => h) (Or.inl ⟨by rfl, ?_⟩) hS0 ?_
  rotate_left
  · intro X hX
    obtain hX1 := hX
    go_simp
    try with_reducible rfl
  simp only [Act.put]
  refine wpAnyH_ready (rs := [3]) (by kernel_rfl) (by simp) ?_
  refine AllReadyH.cons rfl (fun K' hK' => ?_) AllReadyH.nil
  go_simp
  refine (None A' c' m bs W1.drew HM.out hlm).mono ?_
  rintro e W2 ⟨v, rfl, hrow2, hb2⟩
  obtain ⟨g0, c0, rfl⟩ := ownsRow_succ hrow2
  have hk2 : KpK n₁ K W1 W2 := kpK_drew hE1.lo hb2
  have hE2 := hE1.kp hKa hKb hk2
  have hs2 : W1.heap.size ≤ W2.heap.size := hk2.1.size
  have hJ2 : J [] W2 := hJn _ _ _ hJ1 (grown_of_drew hb2)
  have hlast := held_own (K := K) hrow2 (fun k h => (HKn.out k (Nat.le_trans hs1 h)).2.1)
  refine hK'.out _ _ hE2.bb.cell (fun hS0 => ?_)
  clear hK' K'
  refine wpAnyH_ready (rs := [4]) (by kernel_rfl) (by simp) ?_
  refine AllReadyH.cons rfl (fun K' hK' => ?_) AllReadyH.nil
  go_simp
  refine (table Av A' (some ⟨g0, 0, none⟩) cv c' c0 np m W2.heap.size vs ps [] bs W2 HNP.out HM.out (by omega) hlm hle (Nat.le_refl _) (hheld.kp hk2).rd ((hparts.below hk2.1).up hE2.lo) (hE2.rb.up hE2.lo) hlast.rd).mono ?_
  rintro e W3 ⟨g, cap, tv, rfl, hrow3, hl3, hall3, hb3⟩
  have hk3 : KpK n₁ K W2 W3 := kpK_new hE2.lo hb3
  have hE3 := hE2.kp hKa hKb hk3
  have hs3 : W2.heap.size ≤ W3.heap.size := hk3.1.size
  have hJ3 : J [] W3 := hJn _ _ _ hJ2 (grown_of_below hb3 none)
  have hfar := tabOk_of_end (K := K) HM.out HNP.out hrow3 hl3 hall3 ⟨_, _, by rw [rowV_length, HM.out], hlast.kp hk3⟩ (fun k h => ⟨(HKn.out k (by omega)).1, (HKn.out k (by omega)).2.1⟩)
  simp only [List.append_nil] at hfar
  have hFE : FEnv K n₁ Ba Bb (.slice A n c) (.slice A' m c') A A' Av ls bs vs ps g np W3 := ⟨hE3, (hheld.kp hk2).kp hk3, (hparts.below hk2.1).below hk3.1, hfar⟩
  refine hK'.out _ _ hE3.bb.cell (fun hS0 => ?_)
  clear hK' K'
  refine wpAnyH_take (i := 5) (v := ?_) rfl (by kernel_rfl) (by kernel_rfl) (by kernel_rfl) (fun _ _ _ h => h) (Or.inl ⟨by rfl, ?_⟩) hS0 ?_
  rotate_left
  · intro X hX
    obtain hX1 := hX
    go_simp
    try with_reducible rfl
  simp only [Act.put]
  refine wpAnyH_done (by kernel_rfl) ?_ _
  simp only [List.getElem_toArray, List.getElem_cons_succ, List.getElem_cons_zero, List.setIfInBounds_toArray, List.set_cons_succ, List.set_cons_zero]
  clear hS0 hrow2 hrow3 hl3 hall3 hc2 hE1 hE2 hE3 hb2 hb3 hk2 hk3 hheld hparts hlast hfar hJ1 hJ2
  have hs0 : W.heap.size ≤ W3.heap.size := by omega
  clear hs1 hs2 hs3
  gi_wp2
  gi_loopw [22] (fun i wr => ∃ k : Nat, k ≤ np ∧ i = .int .i64 (k : Int) ∧ FEnv K n₁ Ba Bb (.slice A n c) (.slice A' m c') A A' Av ls bs vs ps g np wr ∧ J (List.range ((ps.take k).flatten).length) wr ∧ W.heap.size ≤ wr.heap.size) (fun i _ => np - (intOf i).toNat)
  case atStart => exact ⟨0, Nat.zero_le _, rfl, hFE, hJ3, hs0⟩
  case round =>
    clear hFE hJ3 hs0
    obtain ⟨k, hk, rfl, hFE, hJ, hs0⟩ := hrel
    by_cases hlt : k < np
    · have hkp : k < ps.length := by rw [HNP.out]; exact hlt
      have hkv : k < vs.length := by rw [hFE.hp.1]; exact hkp
      obtain ⟨Ap, cp, hpe, hpc, hpr⟩ := hFE.hp.at_ hkv hkp
      obtain ⟨av, rfl, _, hcv1⟩ := hFE.hv.rd.at_ hkv
      rw [hpe] at hcv1
      clear hpe
      have hplen := hle _ (List.getElem_mem hkp)
      have hos := off_succ hkp
      have hol := off_le ps (k + 1)
      rw [HF.out, HN.out] at hol
      obtain ⟨u, hcu, Au, cu, rfl, hRu⟩ := hFE.far.at_ (k := k + 1) hlt
      rw [rowV_length, HM.out] at hcu
      generalize hpk : ps[k] = p at *
      obtain ⟨pl, hpl⟩ : ∃ pl, p.length = pl := ⟨_, rfl⟩
      rw [hpl] at hplen hos hpc hcv1
      have HPL := Lib.hid hpl; clear hpl
      have HPK := Lib.hid hpk; clear hpk
      generalize hoff : ((ps.take k).flatten).length = off at *
      have HOS := Lib.hid hos; clear hos
      have HOFF := Lib.hid hoff; clear hoff
      have hol' : off + pl ≤ n := by rw [HOS.out] at hol; exact hol
      clear hol
      have hcb := hFE.env.bb.cell
      have hkw : IntKind.i64.wrap ((k : Int) + 1) = (k : Int) + 1 := IntWalk.i64_in _ (by omega)
      gi_wp2
      have i0 : (0 : Int) ≤ (k : Int) + 1 := by omega
      have i1 : ((k : Int) + 1).toNat = k + 1 := by omega
      have i2 : (k : Int) + 1 < (np : Int) + 1 := by omega
      refine wpIn_wide.2 ?_
      refine wp_region_held_drew (S := fun X : World => X.cell? ⟨Bb, 0, none⟩ = some (.slice A' m c') ∧ X.cell? ⟨g, k + 1, none⟩ = some (.slice Au (m + 1) cu)) (by kernel_rfl) ⟨hcb, hcu⟩ (fun hS0 => ?_)
      refine wpAnyH_take (i := 0) (v := ?_) rfl (by kernel_rfl) (by kernel_rfl) (by kernel_rfl) (fun _ _ _ h => h) (Or.inl ⟨by rfl, ?_⟩) hS0 ?_
      rotate_left
      · intro X hX
        obtain ⟨hX1, hX2⟩ := hX
        go_simp
        try with_reducible rfl
      simp only [Act.put]
      refine wpAnyH_take (i := 2) (v := ?_) rfl (by kernel_rfl) (by kernel_rfl) (by kernel_rfl) (fun _ _ _ h => h) (Or.inl ⟨by rfl, ?_⟩) hS0 ?_
      rotate_left
      · intro X hX
        obtain ⟨hX1, hX2⟩ := hX
        go_simp
        try with_reducible rfl
      simp only [Act.put]
      refine wpAnyH_take (i := 3) (v := ?_) rfl (by kernel_rfl) (by kernel_rfl) (by kernel_rfl) (fun _ _ _ h => h) (Or.inl ⟨by rfl, ?_⟩) hS0 ?_
      rotate_left
      · intro X hX
        obtain ⟨hX1, hX2⟩ := hX
        go_simp
        try with_reducible rfl
      simp only [Act.put]
      refine wpAnyH_take (i := 4) (v := ?_) rfl (by kernel_rfl) (by kernel_rfl) (by kernel_rfl) (fun _ _ _ h => h) (Or.inl ⟨by rfl, ?_⟩) hS0 ?_
      rotate_left
      · intro X hX
        obtain ⟨hX1, hX2⟩ := hX
        go_simp
        try with_reducible rfl
      simp only [Act.put]
      refine wpAnyH_take (i := 5) (v := ?_) rfl (by kernel_rfl) (by kernel_rfl) (by kernel_rfl) (fun _ _ _ h => h) (Or.inl ⟨by rfl, ?_⟩) hS0 ?_
      rotate_left
      · intro X hX
        obtain ⟨hX1, hX2⟩ := hX
        go_simp
        try with_reducible rfl
      simp only [Act.put]
      refine wpAnyH_take (i := 6) (v := ?_) rfl (by kernel_rfl) (by kernel_rfl) (by kernel_rfl) (fun _ _ _ h => h) (Or.inl ⟨by rfl, ?_⟩) hS0 ?_
      rotate_left
      · intro X hX
        obtain ⟨hX1, hX2⟩ := hX
        go_simp
        try with_reducible rfl
      simp only [Act.put]
      refine wpAnyH_take (i := 7) (v := ?_) rfl (by kernel_rfl) (by kernel_rfl) (by kernel_rfl) (fun _ _ _ h => h) (Or.inl ⟨by rfl, ?_⟩) hS0 ?_
      rotate_left
      · intro X hX
        obtain ⟨hX1, hX2⟩ := hX
        go_simp
        try with_reducible rfl
      simp only [Act.put]
      clear i0 i1 i2 hkw
      refine wpAnyH_ready (rs := [1]) (by kernel_rfl) (by simp) ?_
      refine AllReadyH.cons rfl (fun K' hK' => ?_) AllReadyH.nil
      go_simp
      refine (Cut Ap cp pl 1 n₁ p wr.drew HPL.out hpc hplen (Nat.le_refl _) (by omega) hFE.env.lo hpr).mono ?_
      rintro e W1 ⟨v, vs1, rfl, hrow1, hparts1, hb1⟩
      obtain ⟨Av1, cv1, rfl, hcv1', hheld1⟩ := held_own' (K := K) hrow1 (fun k h => (HKn.out k (Nat.le_trans hs0 h)).2.2)
      have hk1 : KpK n₁ K wr W1 := kpK_drew hFE.env.lo hb1
      have hFE1 := hFE.kp hKa hKb hk1
      have hs1 : W.heap.size ≤ W1.heap.size := Nat.le_trans hs0 hk1.1.size
      have hJ1 : J (List.range off) W1 := hJn _ _ _ hJ (grown_of_drew hb1)
      have hRu1 := hRu.kp hk1
      have hone : ch 1 p 0 = p.map fun x => [x] := by rw [ch_one p pl 0 (by rw [HPL.out]; omega)]; rfl
      rw [hone] at hparts1 ⊢
      have hol1 : (p.map fun x => [x]).length = pl := by rw [List.length_map, HPL.out]
      rw [hol1]
      have hcu1 : W1.cell? ⟨g, k + 1, none⟩ = some (.slice Au (m + 1) cu) := by
        obtain ⟨lt, _⟩ : (⟨g, k + 1, none⟩ : Addr).block < wr.heap.size ∧ True := ⟨World.block_lt_of_cell? wr _ hcu, trivial⟩
        exact (hb1.cell (p := ⟨g, k + 1, none⟩) lt).trans hcu
      refine hK'.out _ _ ⟨hFE1.env.bb.cell, hcu1⟩ (fun hS0 => ?_)
      clear hK' K' hrow1 hb1 hone hcu hcv1 hcb hFE hk1 hJ hRu hpr hcv1' hs0
      refine wpAnyH_ready (rs := [8]) (by kernel_rfl) (by simp) ?_
      refine AllReadyH.cons rfl (fun K' hK' => ?_) AllReadyH.nil
      go_simp
      refine (table Av1 A' Au cv1 c' cu pl m W1.heap.size vs1 (p.map fun x => [x]) ((ps.drop (k + 1)).flatten) bs W1 hol1 HM.out hplen hlm (fun q hq => by obtain ⟨x, _, rfl⟩ := List.mem_map.1 hq; simp) (Nat.le_refl _) hheld1.rd (hparts1.up hFE1.env.lo) (hFE1.env.rb.up hFE1.env.lo) hRu1.rd).mono ?_
      rintro e W2 ⟨g2, cap2, tv2, rfl, hrow2, hl2, hall2, hb2⟩
      have hk2 : KpK n₁ K W1 W2 := kpK_new hFE1.env.lo hb2
      have hFE2 := hFE1.kp hKa hKb hk2
      have hs2 : W.heap.size ≤ W2.heap.size := Nat.le_trans hs1 hk2.1.size
      have hJ2 : J (List.range off) W2 := hJn _ _ _ hJ1 (grown_of_below hb2 none)
      have hnear0 := tabOk_of_end (K := K) HM.out hol1 hrow2 hl2 hall2 ⟨_, _, by rw [rowV_length, HM.out], hRu1.kp hk2⟩ (fun k h => ⟨(HKn.out k (by omega)).1, (HKn.out k (by omega)).2.1⟩)
      have hnear : TabOk K W2 g2 pl (fun i => rowV (ls.drop (off + i)) bs) := hnear0.congr (fun i hi => by
        have := near_eq (i := i) hkp (by rw [HPK.out, HPL.out]; exact hi)
        rw [HPK.out, HF.out, HOFF.out] at this
        show rowV _ bs = rowV _ bs
        rw [this])
      have hcu2 : W2.cell? ⟨g, k + 1, none⟩ = some (.slice Au (m + 1) cu) := (hb2.cell (p := ⟨g, k + 1, none⟩) (World.block_lt_of_cell? W1 _ hcu1)).trans hcu1
      refine hK'.out _ _ ⟨hFE2.env.bb.cell, hcu2⟩ (fun hS0 => ?_)
      clear hK' K' hrow2 hl2 hall2 hnear0 hcu1 hcu2 hRu1 hFE1 hJ1 hk2 hb2 hs1 hheld1 hparts1
      refine wpAnyH_take (i := 9) (v := ?_) rfl (by kernel_rfl) (by kernel_rfl) (by kernel_rfl) (fun _ _ _ h => h) (Or.inl ⟨by rfl, ?_⟩) hS0 ?_
      rotate_left
      · intro X hX
        obtain ⟨hX1, hX2⟩ := hX
        go_simp
        try with_reducible rfl
      simp only [Act.put]
      refine wpAnyH_done (by kernel_rfl) ?_ _
      simp only [List.getElem_toArray, List.getElem_cons_succ, List.getElem_cons_zero, List.setIfInBounds_toArray, List.set_cons_succ, List.set_cons_zero]
      clear hS0
      gi_wp2
      gi_loopw [38] (fun i wr => ∃ j : Nat, j ≤ pl ∧ i = .int .i64 (j : Int) ∧ FEnv K n₁ Ba Bb (.slice A n c) (.slice A' m c') A A' (some av) ls bs vs ps g np wr ∧ TabOk K wr g2 pl (fun i => rowV (ls.drop (off + i)) bs) ∧ J (List.range (off + j)) wr ∧ W.heap.size ≤ wr.heap.size) (fun i _ => pl - (intOf i).toNat)
      case atStart => exact ⟨0, Nat.zero_le _, rfl, hFE2, hnear, hJ2, hs2⟩
      case round =>
        clear hFE2 hnear hJ2 hs2
        obtain ⟨j, hj, rfl, hFE, hnear, hJ, hs0⟩ := hrel
        by_cases hjl : j < pl
        · obtain ⟨u1, hc1, B1, d1, rfl, hR1⟩ := hnear.at_ (k := j) hj
          obtain ⟨u2, hc2, B2, d2, rfl, hR2⟩ := hnear.at_ (k := j + 1) hjl
          obtain ⟨post, hsplit⟩ := range_split (n := n) (i := off + j) (by omega)
          have HSP := Lib.hid hsplit; clear hsplit
          have hEr : ERow K ls bs (off + j) #[.slice B1 (rowV (ls.drop (off + j)) bs).length d1, .slice B2 (rowV (ls.drop (off + (j + 1))) bs).length d2] wr.drew := ⟨_, _, rfl, ⟨_, _, rfl, hR1⟩, ⟨_, _, rfl, hR2⟩⟩
          rw [rowV_length, HM.out] at hc1 hc2
          rw [rowV_length, rowV_length, HM.out] at hEr
          obtain ⟨fn, tmps, assign, body, hy, hRR⟩ := hY _ _ post _ wr.drew HSP.out (hJn _ _ _ hJ (grown_of_drew (Below.refl _ _))) hEr
          have hjw : IntKind.i64.wrap ((j : Int) + 1) = (j : Int) + 1 := IntWalk.i64_in _ (by omega)
          gi_wp2
          have i0 : (0 : Int) ≤ (j : Int) + 1 := by omega
          have i1 : ((j : Int) + 1).toNat = j + 1 := by omega
          have i2 : (j : Int) + 1 < (pl : Int) + 1 := by omega
          have i3 : (j : Int) < (pl : Int) + 1 := by omega
          refine still_in 10 (fun _ => trivial) (fun h => by cases h) (fun _ _ _ _ h => callsIn_wide.2 h) (by kernel_rfl) (by kernel_rfl) (by kernel_rfl) ?_
          simp only [List.take_succ_cons, List.take_zero, List.drop_succ_cons, List.drop_zero]
          repeat still_step
          refine wpStill_nil ?_
          clear i0 i1 i2 i3 hjw
          change wpListIn _ _ _ _ _ _ _ wr.drew
          gi_wp2
          refine ⟨(fun h => by cases h), ?_⟩
          refine hRR.mono ?_
          rintro e W5 (⟨rfl, hJ5, hk5⟩ | ⟨rfl, hJx5⟩)
          · have hk6 : KpK n₁ K wr W5 := kpK_t (kpK_new hFE.env.lo (Below.refl _ _).drew) hk5
            have hFE6 := hFE.kp hKa hKb hk6
            have hnear6 := hnear.kp hk6
            have hs6 : W.heap.size ≤ W5.heap.size := Nat.le_trans hs0 hk6.1.size
            gi_wp2
            go_roundw
            case rel => exact ⟨j + 1, by omega, by go_num, hFE6, hnear6, by rw [← Nat.add_assoc, List.range_succ]; exact hJ5, hs6⟩
            case measure => simp [intOf]; omega
          · gi_wp2
            refine bodyPost_ret (results_none rfl _ _ _) rfl ?_
            exact ⟨⟨_, rfl⟩, .inr ⟨_, post, by rw [HSP.out]; simp, hJx5⟩⟩
        · obtain rfl : j = pl := by omega
          gi_wp2
          go_roundw
          case rel => exact ⟨k + 1, by omega, by go_num, hFE, by rw [HOS.out]; exact hJ, hs0⟩
          case measure => simp [intOf]; omega
    · obtain rfl : k = np := by omega
      gi_wp2
      go_end0
      refine ⟨⟨_, rfl⟩, .inl ?_⟩
      rw [List.take_of_length_le (by rw [HNP.out]; exact Nat.le_refl _), HF.out, HN.out] at hJ
      exact hJ

theorem rows_gives (d n₁ Ba Bb n m c c' : Nat) (K : Nat → TypeId → Prop) (A A' : Option Addr) (ls bs : List (List UInt8)) (hn : ls.length = n) (hm : bs.length = m) (hnc : n ≤ c) (hln : n ≤ 1000) (hlm : m ≤ 1000) (w : World)
    (hKa : K Ba 22) (hKb : K Bb 22) (hKn : ∀ k, w.heap.size + 2 ≤ k → K k 74 ∧ K k 3 ∧ K k 22)
    (hba : Boxed w Ba 22 (.slice A n c)) (hbb : Boxed w Bb 22 (.slice A' m c')) (hlo : n₁ ≤ w.heap.size) (hR : RdS w n₁ A ls) (hR' : RdS w n₁ A' bs) :
    GivesE Try.prog Plain d 51 #[.pointer (some ⟨Ba, 0, none⟩), .pointer (some ⟨Bb, 0, none⟩)] (ERow K ls bs) (List.range n) (KpK n₁ K) w := fun J Jx W hW hs hJ _ hY h0 =>
  rows1_in d _ n₁ Ba Bb n m c c' K A A' ls bs hn hm hnc hln hlm J Jx W hKa hKb (by rw [hs]; exact hKn) (fun s W W' hs hg => hJ.new hs hg) (fun pre x post vals W1 h1 h2 h3 => yield_less (hY pre x post vals W1 h1 h2 h3))
    ⟨(hW.block Ba hba.lt).trans hba, (hW.block Bb hbb.lt).trans hbb, hR.below (hW.mono hlo), hR'.below (hW.mono hlo), by omega⟩ h0

end Lc
end Go.Proofs.Ytkpgkbllcdpobaa
