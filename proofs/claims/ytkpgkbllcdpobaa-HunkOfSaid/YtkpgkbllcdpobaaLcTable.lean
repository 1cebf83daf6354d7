/-
  What table of layer 3 returns (walk): the rows from each part on, in a row of its own, each in a row of its own; and, last, the one that is given.
-/
import Derived.Test.YtkpgkbllcdpobaaLcColl
namespace Go.Proofs.Ytkpgkbllcdpobaa
open Go.RowKit Go.Shelf
set_option linter.unusedVariables false
namespace Lc
open Tx Rg
attribute [local go_sem] Oper.semAt_some

theorem info_row : (Try.prog.info? 74).map (fun i => (i.zero, i.size, i.bytes)) = some (some (.slice none 0 0), 1, 24) := by kernel_rfl

/-- How table ends. -/
def TabEnd (w : World) (m np : Nat) (last : Value) (ps : List (List (List UInt8))) (zs bs : List (List UInt8)) (e : Ending) (w' : World) : Prop :=
  ∃ g cap tv, e = .returned (.slice (some ⟨g, 0, none⟩) (np + 1) cap) ∧ w'.ownsRow w.heap.size 74 1 (.slice (some ⟨g, 0, none⟩) (np + 1) cap) (np + 1) tv ∧ tv[np]? = some last ∧
    (∀ k, k < np → ∃ v, tv[k]? = some v ∧ w'.ownsRow w.heap.size 3 1 v (m + 1) (rowV ((ps.drop k).flatten ++ zs) bs)) ∧ Below w.heap.size w w'

/-- What the rows so far are: tv at W, from place q on. -/
def TabRows (w : World) (m np : Nat) (T last : Value) (ps : List (List (List UInt8))) (zs bs : List (List UInt8)) (q : Nat) (tv : List Value) (W : World) : Prop :=
  W.ownsRow w.heap.size 74 1 T (np + 1) tv ∧ tv[np]? = some last ∧
      ∀ k, q ≤ k → k < np → ∃ v, tv[k]? = some v ∧ W.ownsRow w.heap.size 3 1 v (m + 1) (rowV ((ps.drop k).flatten ++ zs) bs)
/-- Between two rounds. -/
def TabInv (w : World) (m np : Nat) (bv T last : Value) (ps : List (List (List UInt8))) (zs bs : List (List UInt8)) (pre : List (Nat × Value)) (W : World) : Prop :=
  (Boxed W w.heap.size 22 bv ∧ Boxed W (w.heap.size + 1 + 1) 79 T) ∧ (∃ tv : List Value, TabRows w m np T last ps zs bs (np - pre.length) tv W) ∧ Below w.heap.size w W
theorem tabInv_ab (w : World) (m np : Nat) (bv T last : Value) (ps : List (List (List UInt8))) (zs bs : List (List UInt8)) {B : Nat} (hB : w.heap.size ≤ B) : Ab Plain B (TabInv w m np bv T last ps zs bs) := by
  refine Ab.and (Ab.and (ab_boxed _ (fun _ => plain_cells _ _ _)) (ab_boxed _ (fun _ => plain_cells _ _ _))) (Ab.and (ab_ex fun tv => Ab.and (ab_row _ _ (fun _ => plain_cells _ _ _)) (Ab.and (ab_pure _ _ _) ?_)) (ab_below (Nat.le_refl _) hB))
  intro s W W' row hs hg hr k h1 h2
  obtain ⟨v, h3, h4⟩ := hs k h1 h2
  exact ⟨v, h3, ab_row (Free := Plain) (B := B) (fun _ : Unit => m + 1) (fun _ => rowV ((ps.drop k).flatten ++ zs) bs) (fun _ => plain_cells _ _ _) () W W' row h4 hg hr⟩

theorem rows_ne {W : World} {base base' size size' n n' : Nat} {e e' : TypeId} {v v' : Value} {xs xs' : List Value} (h : W.ownsRow base e size v n xs) (h' : W.ownsRow base' e' size' v' n' xs') (hne : e ≠ e') : v.ownBlock = none ∨ v.ownBlock ≠ v'.ownBlock := by
  rcases h.2 with ⟨rfl, _⟩ | ⟨g, _, cur, rfl, _, hg, _⟩
  · exact .inl rfl
  · right
    rcases h'.2 with ⟨rfl, _⟩ | ⟨g', _, cur', rfl, _, hg', _⟩
    · simp [Value.ownBlock]
    · intro e1
      obtain rfl : g = g' := by simpa [Value.ownBlock] using e1
      rw [hg] at hg'
      simp at hg'
      exact hne hg'.2
theorem grown_of_below {W W' : World} (h : Below W.heap.size W W') (r : Option Nat) : W.grownBy W' r := ⟨h.os, h.tape, h.output, h.size, fun k hk _ => h.block k hk⟩

theorem tab_next {w W W2 : World} {m np k g cap gv cv Bs : Nat} {bv last u : Value} {ps : List (List (List UInt8))} {zs bs : List (List UInt8)} {pre : List (Nat × Value)} {tv : List Value} (hk : k < ps.length) (hn : ps.length = np) (hp : pre.length + k + 1 = np)
    (hI : TabInv w m np bv (.slice (some ⟨g, 0, none⟩) (np + 1) cap) last ps zs bs pre W) (hrow : W.ownsRow w.heap.size 74 1 (.slice (some ⟨g, 0, none⟩) (np + 1) cap) (np + 1) tv) (hl : tv[np]? = some last)
    (hall : ∀ k, np - pre.length ≤ k → k < np → ∃ v, tv[k]? = some v ∧ W.ownsRow w.heap.size 3 1 v (m + 1) (rowV ((ps.drop k).flatten ++ zs) bs))
    (hrv : W2.ownsRow W.heap.size 3 1 (.slice (some ⟨gv, 0, none⟩) (m + 1) cv) (m + 1) (rowV (ps[k] ++ ((ps.drop (k + 1)).flatten ++ zs)) bs)) (hbv : Below W.heap.size W.drew W2) :
    (∀ B, KeepsFrom B W (W2.setCell ⟨g, k, none⟩ (.slice (some ⟨gv, 0, none⟩) (m + 1) cv))) ∧ KpB w.heap.size Bs 76 W (W2.setCell ⟨g, k, none⟩ (.slice (some ⟨gv, 0, none⟩) (m + 1) cv)) ∧
      TabInv w m np bv (.slice (some ⟨g, 0, none⟩) (np + 1) cap) last ps zs bs (pre ++ [(k, u)]) (W2.setCell ⟨g, k, none⟩ (.slice (some ⟨gv, 0, none⟩) (m + 1) cv)) := by
  have hb2 : Below W.heap.size W W2 := ⟨hbv.os, hbv.tape, hbv.output, hbv.size, hbv.block⟩
  have hg1 := grown_of_below hb2 none
  obtain ⟨⟨h3, h4⟩, _, hbel⟩ := hI
  have hrow2 := hrow.kept hg1 (.inr (by simp [Value.ownBlock]))
  obtain ⟨hr3, hg3⟩ := hrow2.stored k (.slice (some ⟨gv, 0, none⟩) (m + 1) cv)
  have hgw := (hrow.lt g rfl).1
  have hsz := hbel.size
  have kb : ∀ {b : Nat} {t : TypeId} {v : Value}, Boxed W b t v → t ≠ 74 → Boxed (W2.setCell ⟨g, k, none⟩ (.slice (some ⟨gv, 0, none⟩) (m + 1) cv)) b t v := fun h ht =>
    (h.kept hg1 (by simp)).kept hg3 (Boxed.not_row (h.kept hg1 (by simp)) ht hrow2)
  refine ⟨fun B => ((KeepsOthers.of_grownBy hg1 (fun j o e _ => by cases e)).trans (KeepsOthers.setCell _ _ _)).from B, ⟨((hb2.mono hsz)).setCell (p := ⟨g, k, none⟩) hgw _, fun v hv => kb hv (by decide)⟩, ⟨kb h3 (by decide), kb h4 (by decide)⟩,
    ⟨_, hr3, ?_, fun k' h1 h2 => ?_⟩, (hbel.trans (hb2.mono hsz)).setCell (p := ⟨g, k, none⟩) hgw _⟩
  · rw [List.getElem?_set_ne (by omega)]; exact hl
  · have h1' : k ≤ k' := by rw [List.length_append] at h1; simp at h1; omega
    by_cases e : k = k'
    · subst e
      refine ⟨_, List.getElem?_set_self (by have := hrow.1; omega), ?_⟩
      have := (own_mono hrv hsz).kept hg3 (rows_ne hrv hrow2 (by decide))
      rw [List.drop_eq_getElem_cons hk, List.flatten_cons, List.append_assoc]
      exact this
    · obtain ⟨v, h5, h6⟩ := hall k' (by omega) h2
      refine ⟨v, by rw [List.getElem?_set_ne e]; exact h5, ?_⟩
      have h7 := h6.kept hg1 (by cases v.ownBlock <;> simp)
      exact h7.kept hg3 (rows_ne h7 hrow2 (by decide))

set_option maxRecDepth 100000 in
set_option maxHeartbeats 2000000 in
theorem table (A A' Ar : Option Addr) (c c' cr np m B : Nat) (vs : List Value) (ps : List (List (List UInt8))) (zs bs : List (List UInt8)) (w : World) (hnp : ps.length = np) (hm : bs.length = m) (hlp : np ≤ 1000) (hlm : m ≤ 1000) (hle : ∀ p ∈ ps, p.length ≤ 1000) (hB : B ≤ w.heap.size)
    (hV : Rd w B A vs) (hP : Parts w B vs ps) (hR' : RdS w B A' bs) (hRr : Rd w B Ar (rowV zs bs)) :
    Calls Try.prog 54 #[.slice A np c, .slice A' m c', .slice Ar (m + 1) cr] w (TabEnd w m np (.slice Ar (m + 1) cr) ps zs bs) := by
  obtain ⟨j0, hj, hy0, hy1, hy2⟩ := info_parts info_row
  have HM := Lib.hid hm; clear hm
  have HN := Lib.hid hnp; clear hnp
  have hmk : ∀ W : World, (Instr.makeSlice 79 (.int .i64 ((np : Int) + 1)) (.int .i64 ((np : Int) + 1))).run Try.prog W = .ok (.slice (some ⟨W.heap.size, 0, none⟩) (np + 1) (np + 1)) (W.alloc (.cells (madeCells #[.slice none 0 0] (np + 1)) 74)) := by
    intro W
    have := run_makeSlice (P := Try.prog) W 79 74 j0 (.slice none 0 0) Try.underlying79 hj hy0 .i64 .i64 ((np : Int) + 1) ((np : Int) + 1) (by omega) (by omega) (by rw [hy1]; omega) (by rw [hy2]; omega) (by omega)
    rw [hy1, Nat.mul_one, show ((np : Int) + 1).toNat = np + 1 by omega] at this
    exact this
  obtain ⟨cz, hcz⟩ : ∃ cz, madeCells #[.slice none 0 0] (np + 1) = cz := ⟨_, rfl⟩
  have hz1 : cz[np]? = some (.slice none 0 0) := by rw [← hcz]; simp [madeCells, Nat.mod_one]
  have HZ : Hid (cz.size = np + 1) := Lib.hid (by rw [← hcz, size_madeCells])
  simp only [hcz] at hmk
  clear hcz
  refine (callsIn_wide (n := 3)).1 ?_
  refine callsIn_of_wp_marks Try.func54 rfl trivial ?_ rfl
  simp only [Try.ntmps54, List.size_toArray, List.length_cons, List.length_nil, Nat.reduceAdd, Nat.reduceSub, Array.replicate_succ, Array.replicate_zero, List.push_toArray, List.append_toArray, List.nil_append, List.cons_append]
  gi_wp2_with fail
  refine ⟨trivial, ?_⟩
  refine (backP_in 2 _ _ _ _).mono ?_
  rintro e w' ⟨rfl, rfl⟩
  gi_wp2
  obtain ⟨tz, htz⟩ : ∃ tz, cz.setIfInBounds np (.slice Ar (m + 1) cr) = tz := ⟨_, rfl⟩
  have hts : tz.size = np + 1 := by rw [← htz]; simpa using HZ.out
  have htn : tz.toList[np]? = some (.slice Ar (m + 1) cr) := by rw [← htz]; simp [HZ.out]
  rw [htz]
  clear htz hz1 HZ
  have hb0 := ((Boxed.new w 22 (.slice A' m c')).alloc (.cells tz 74))
  have hrw := World.ownsRow_lit (base := w.heap.size) (e := 74) (size := 1) (w.alloc (.cells #[.slice A' m c'] 22)) tz (np + 1) (by simp) (by unfold maxLen; omega) (by omega)
  have hbt := Boxed.new ((w.alloc (.cells #[.slice A' m c'] 22)).alloc (.cells tz 74)) 79 (.slice (some ⟨w.heap.size + 1, 0, none⟩) (np + 1) (np + 1))
  have hbs := Boxed.new (((w.alloc (.cells #[.slice A' m c'] 22)).alloc (.cells tz 74)).alloc (.cells #[.slice (some ⟨w.heap.size + 1, 0, none⟩) (np + 1) (np + 1)] 79)) 76 (.slice A np c)
  simp only [World.size_alloc] at hrw hbt hbs
  have hw4 : Below w.heap.size w ((((w.alloc (.cells #[.slice A' m c'] 22)).alloc (.cells tz 74)).alloc (.cells #[.slice (some ⟨w.heap.size + 1, 0, none⟩) (np + 1) (np + 1)] 79)).alloc (.cells #[.slice A np c] 76)) :=
    ((((Below.refl _ _).alloc (Nat.le_refl _) _).alloc (by simp) _).alloc (by simp; omega) _).alloc (by simp; omega) _
  have hvl : vs.length = np := by rw [hP.1, HN.out]
  have HV := Lib.hid hvl; clear hvl
  refine range_law' (n := 3) (gf := 62) (lb := #[.pointer (some ⟨w.heap.size + 1 + 1 + 1, 0, none⟩)]) rfl (enters_of Try.func62 (by kernel_rfl) rfl) (Free := Plain) (fun _ h => h)
    (backP_gives 2 (w.heap.size + 1 + 1 + 1) w.heap.size c np A vs HV.out (by omega) _ hbs (by simp; omega) ((hV.up hB).below hw4)) kpB_t (kpB_b (by simp; omega) (by simp)) kpB_r (fun _ => rfl)
    (TabInv w m np (.slice A' m c') (.slice (some ⟨w.heap.size + 1, 0, none⟩) (np + 1) (np + 1)) (.slice Ar (m + 1) cr) ps zs bs) (fun _ _ _ => False) (tabInv_ab _ _ _ _ _ _ _ _ _ (by simp; omega)) (fun _ => ab_pure _ _ _) ?h0 ?a1 ?assign ?body ?done ?stop
  case h0 =>
    exact ⟨⟨(hb0.alloc _).alloc _, hbt.alloc _⟩, ⟨tz.toList, (hrw.alloc _).alloc _, htn, fun k h1 h2 => by simp at h1; omega⟩, hw4⟩
  case assign =>
    intro l x W K hK
    gi_wp2
    exact hK
  case body =>
    rintro l pre post ⟨k, v⟩ W hfull hI
    obtain ⟨hk, hv, hp⟩ := bk_split hfull
    dsimp only at hk hv hp
    clear hfull
    rw [HV.out] at hp
    have hkn : k < np := by rw [HV.out] at hk; exact hk
    have hkp : k < ps.length := by rw [HN.out]; exact hkn
    obtain ⟨Ap, cp, hpe, _, hpr⟩ := hP.at_ hk hkp
    obtain rfl : v = .slice Ap ps[k].length cp := by rw [← hv]; exact hpe
    clear hv hpe hk
    have hlp' := hle _ (List.getElem_mem hkp)
    obtain ⟨⟨h3, h4⟩, ⟨tv, hrow, hl, hall⟩, hgr⟩ := id hI
    have hnext : ∃ Ark crk, tv[k + 1]? = some (.slice Ark (m + 1) crk) ∧ Rd W W.heap.size Ark (rowV ((ps.drop (k + 1)).flatten ++ zs) bs) := by
      by_cases e : k + 1 = np
      · refine ⟨Ar, cr, by rw [e]; exact hl, ?_⟩
        rw [List.drop_of_length_le (by rw [HN.out]; omega), List.flatten_nil, List.nil_append]
        exact (hRr.below (hgr.mono hB)).up (by have := hgr.size; omega)
      · obtain ⟨v, h1, h2⟩ := hall (k + 1) (by omega) (by omega)
        obtain ⟨Av, cv, rfl, _, hrd⟩ := rd_of_own h2
        exact ⟨Av, cv, h1, hrd⟩
    obtain ⟨Ark, crk, hk1, hrd1⟩ := hnext
    have hold : ∃ old, tv[k]? = some old := ⟨_, List.getElem?_eq_getElem (by have := hrow.1; omega)⟩
    obtain ⟨old, hold⟩ := hold
    have hc3 := h3.cell
    have hc4 := h4.cell
    have hck := hrow.cellAt k (by omega)
    have hck1 := hrow.cellAt (k + 1) (by omega)
    rw [hold] at hck
    rw [hk1] at hck1
    have hfk := hrow.frozenAt k
    have hp2 : Rd W W.heap.size Ap (ps[k].map strV) := (Rd.below hpr (hgr.mono hB)).up (by have := hgr.size; omega)
    have hp3 : RdS W W.heap.size A' bs := (hR'.below (hgr.mono hB)).up (by have := hgr.size; omega)
    have HI := Lib.hid (And.intro hI (And.intro hrow (And.intro hold (And.intro hl hall))))
    clear hI hrow hold hl hall hk1 h3 h4
    have HP := Lib.hid hp; clear hp
    have hkw : IntKind.i64.wrap ((k : Int) + 1) = (k : Int) + 1 := IntWalk.i64_in _ (by omega)
    gi_wp2
    have i0 : (0 : Int) ≤ (k : Int) + 1 := by omega
    have i1 : ((k : Int) + 1).toNat = k + 1 := by omega
    have i2 : (k : Int) + 1 < (np : Int) + 1 := by omega
    have i3 : (k : Int) < (np : Int) + 1 := by omega
    refine round_held (S := fun X : World => X.cell? ⟨w.heap.size, 0, none⟩ = some (.slice A' m c') ∧ X.cell? ⟨w.heap.size + 1 + 1, 0, none⟩ = some (.slice (some ⟨w.heap.size + 1, 0, none⟩) (np + 1) (np + 1)) ∧ X.cell? ⟨w.heap.size + 1, k + 1, none⟩ = some (.slice Ark (m + 1) crk) ∧ (∃ u, X.cell? ⟨w.heap.size + 1, k, none⟩ = some u) ∧ X.frozen? ⟨w.heap.size + 1, k, none⟩ = false) (by kernel_rfl) (by kernel_rfl) ?hq ?hS (fun hS0 => ?_)
    case hq => rintro ⟨_, _, h⟩; exact h
    case hS => exact ⟨hc3, hc4, hck1, ⟨_, hck⟩, hfk⟩
    refine wpAnyH_take (i := 0) (v := ?_) rfl (by kernel_rfl) (by kernel_rfl) (by kernel_rfl) (fun _ _ _ h => h) (Or.inl ⟨by rfl, ?_⟩) hS0 ?_
    rotate_left
    · intro X hX
      obtain ⟨hX1, hX2, hX3, hX4, hX5⟩ := hX
      go_simp
      try with_reducible rfl
    simp only [Act.put]
    refine wpAnyH_take (i := 1) (v := ?_) rfl (by kernel_rfl) (by kernel_rfl) (by kernel_rfl) (fun _ _ _ h => h) (Or.inl ⟨by rfl, ?_⟩) hS0 ?_
    rotate_left
    · intro X hX
      obtain ⟨hX1, hX2, hX3, hX4, hX5⟩ := hX
      go_simp
      try with_reducible rfl
    simp only [Act.put]
    refine wpAnyH_take (i := 2) (v := ?_) rfl (by kernel_rfl) (by kernel_rfl) (by kernel_rfl) (fun _ _ _ h => h) (Or.inl ⟨by rfl, ?_⟩) hS0 ?_
    rotate_left
    · intro X hX
      obtain ⟨hX1, hX2, hX3, hX4, hX5⟩ := hX
      go_simp
      try with_reducible rfl
    simp only [Act.put]
    refine wpAnyH_take (i := 3) (v := ?_) rfl (by kernel_rfl) (by kernel_rfl) (by kernel_rfl) (fun _ _ _ h => h) (Or.inl ⟨by rfl, ?_⟩) hS0 ?_
    rotate_left
    · intro X hX
      obtain ⟨hX1, hX2, hX3, hX4, hX5⟩ := hX
      go_simp
      try with_reducible rfl
    simp only [Act.put]
    refine wpAnyH_take (i := 4) (v := ?_) rfl (by kernel_rfl) (by kernel_rfl) (by kernel_rfl) (fun _ _ _ h => h) (Or.inl ⟨by rfl, ?_⟩) hS0 ?_
    rotate_left
    · intro X hX
      obtain ⟨hX1, hX2, hX3, hX4, hX5⟩ := hX
      go_simp
      try with_reducible rfl
    simp only [Act.put]
    refine wpAnyH_take (i := 5) (v := ?_) rfl (by kernel_rfl) (by kernel_rfl) (by kernel_rfl) (fun _ _ _ h => h) (Or.inl ⟨by rfl, ?_⟩) hS0 ?_
    rotate_left
    · intro X hX
      obtain ⟨hX1, hX2, hX3, hX4, hX5⟩ := hX
      go_simp
      try with_reducible rfl
    simp only [Act.put]
    refine wpAnyH_take (i := 6) (v := ?_) rfl (by kernel_rfl) (by kernel_rfl) (by kernel_rfl) (fun _ _ _ h => h) (Or.inl ⟨by rfl, ?_⟩) hS0 ?_
    rotate_left
    · intro X hX
      obtain ⟨hX1, hX2, hX3, hX4, hX5⟩ := hX
      go_simp
      try with_reducible rfl
    simp only [Act.put]
    refine wpAnyH_take (i := 7) (v := ?_) rfl (by kernel_rfl) (by kernel_rfl) (by kernel_rfl) (fun _ _ _ h => h) (Or.inl ⟨by rfl, ?_⟩) hS0 ?_
    rotate_left
    · intro X hX
      obtain ⟨hX1, hX2, hX3, hX4, hX5⟩ := hX
      go_simp
      try with_reducible rfl
    simp only [Act.put]
    refine wpAnyH_take (i := 8) (v := ?_) rfl (by kernel_rfl) (by kernel_rfl) (by kernel_rfl) (fun _ _ _ h => h) (Or.inl ⟨by rfl, ?_⟩) hS0 ?_
    rotate_left
    · intro X hX
      obtain ⟨hX1, hX2, hX3, hX4, hX5⟩ := hX
      go_simp
      try with_reducible rfl
    simp only [Act.put]
    refine wpAnyH_ready (rs := [9]) (by kernel_rfl) (by simp) ?_
    refine AllReadyH.cons rfl (fun K hK => ?_) AllReadyH.nil
    go_simp
    refine (left Ap A' Ark cp c' crk ps[k].length m W.heap.size ps[k] ((ps.drop (k + 1)).flatten ++ zs) bs W.drew rfl HM.out hlp' hlm (Nat.le_refl _) hp2 hp3 hrd1).mono ?_
    rintro e W2 ⟨v, rfl, hrv, hbv⟩
    obtain ⟨gv, cv, rfl⟩ := ownsRow_succ hrv
    have l3 := World.block_lt_of_cell? W _ hc3
    have l4 := World.block_lt_of_cell? W _ hc4
    have lk := World.block_lt_of_cell? W _ hck
    have hS1 : W2.cell? ⟨w.heap.size, 0, none⟩ = some (.slice A' m c') ∧ W2.cell? ⟨w.heap.size + 1 + 1, 0, none⟩ = some (.slice (some ⟨w.heap.size + 1, 0, none⟩) (np + 1) (np + 1)) ∧ W2.cell? ⟨w.heap.size + 1, k + 1, none⟩ = some (.slice Ark (m + 1) crk) ∧ (∃ u, W2.cell? ⟨w.heap.size + 1, k, none⟩ = some u) ∧ W2.frozen? ⟨w.heap.size + 1, k, none⟩ = false :=
      ⟨(hbv.cell (p := ⟨w.heap.size, 0, none⟩) l3).trans hc3, (hbv.cell (p := ⟨w.heap.size + 1 + 1, 0, none⟩) l4).trans hc4, (hbv.cell (p := ⟨w.heap.size + 1, k + 1, none⟩) lk).trans hck1, ⟨_, (hbv.cell (p := ⟨w.heap.size + 1, k, none⟩) lk).trans hck⟩, (hbv.frozen (p := ⟨w.heap.size + 1, k, none⟩) lk).trans hfk⟩
    refine hK.out _ _ hS1 (fun _ => ?_)
    clear hK K hS0
    have hS0 := hS1
    refine wpAnyH_take (i := 10) (v := ?_) rfl (by kernel_rfl) (by kernel_rfl) (by kernel_rfl) (fun _ _ _ h => h) (Or.inl ⟨by rfl, ?_⟩) hS0 ?_
    rotate_left
    · intro X hX
      obtain ⟨hX1, hX2, hX3, hX4, hX5⟩ := hX
      go_simp
      try with_reducible rfl
    simp only [Act.put]
    refine wpAnyH_ready (rs := [11]) (by kernel_rfl) (by simp) ?_
    refine AllReadyH.cons rfl (fun K hK => ?_) AllReadyH.nil
    obtain ⟨u1, u2, u3, ⟨u, u4⟩, u5⟩ := hS1
    go_simp
    refine hK.out _ _ ⟨?_, ?_, ?_, ⟨_, World.cell?_setCell_same' _ _ _ (by rw [u4]; rfl)⟩, by rw [World.frozen?_setCell]; exact u5⟩ (fun _ => wpAnyH_done (by kernel_rfl) ?_ _)
    · rw [World.cell?_setCell_far _ _ _ _ (by simp)]; exact u1
    · rw [World.cell?_setCell_far _ _ _ _ (by simp)]; exact u2
    · rw [World.cell?_setCell_other _ _ _ _ (by simp)]; exact u3
    clear hK K
    have hend := tab_next (Bs := w.heap.size + 1 + 1 + 1) (u := .slice Ap ps[k].length cp) hkp HN.out HP.out HI.out.1 HI.out.2.1 HI.out.2.2.2.1 HI.out.2.2.2.2 hrv hbv
    gi_wp2
    exact ⟨hend.1 _, hend.2⟩
  case done =>
    rintro D W hD ⟨⟨_, h4⟩, ⟨tv, hrow, hl, hall⟩, hgr⟩ hK
    have hc := h4.cell
    gi_wp2
    refine ⟨by simp, .inl ⟨_, _, rfl, run_takeDeferred hK, ?_⟩⟩
    refine ⟨_, results_tmp rfl _ _ _, _, _, tv, rfl, ownsRow_putObj hrow (.deferred none) hK rfl, hl, fun k hk => ?_, ?_⟩
    · obtain ⟨v, h1, h2⟩ := hall k (by rw [bk_length, HV.out]; omega) hk
      exact ⟨v, h1, ownsRow_putObj h2 (.deferred none) hK rfl⟩
    · exact hgr.grown (grownBy_putObj' _ D _) hgr.size (fun j e => by cases e; simp at hD; omega)
  case stop =>
    rintro D c pre post W _ _ h _
    exact h.elim

end Lc
end Go.Proofs.Ytkpgkbllcdpobaa
