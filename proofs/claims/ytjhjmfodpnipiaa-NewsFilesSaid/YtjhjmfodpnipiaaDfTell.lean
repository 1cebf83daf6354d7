/-
  What the closure tell within Edits of layer 4 does (walk): the stretch from the two places on is told, if it has a line.
-/
import Derived.Test.YtjhjmfodpnipiaaGD
import Derived.Deep.RegionHeld3
import Derived.Deep.AppendLies
set_option maxRecDepth 100000
namespace Go.Proofs.Ytjhjmfodpnipiaa
open Go.RowKit
set_option linter.unusedVariables false
namespace Df
open Tx

theorem info_edit : (Try.prog.info? 90).map (fun i => (i.zero, i.size, i.bytes)) = some (some (.agg #[.int .i64 0, .int .i64 0, .slice none 0 0]), 3, 40) := by kernel_rfl

/-- The variables of Edits, from block h on: b, l, i, j; the edits told so far. -/
structure Vars (W : World) (h : Nat) (vb : Value) (i j : Nat) (es : List E) : Prop where
  b : Boxed W h 33 vb
  i : Boxed W (h + 2) 3 (.int .i64 (i : Int))
  j : Boxed W (h + 3) 3 (.int .i64 (j : Int))
  l : ∃ v xs, Boxed W (h + 1) 87 v ∧ W.ownsRow h 90 3 v es.length xs ∧ ECells W h es xs

/-- How tell ends. -/
def TellEnd (W : World) (h : Nat) (vb : Value) (p q : Nat) (es : List E) (e : Ending) (W' : World) : Prop :=
  e = .returned (.tuple #[]) ∧ Vars W' h vb p q es ∧ Below h W W' ∧ KpE W W'

theorem box_set {W : World} {b b' : Nat} {t : TypeId} {v : Value} (h : Boxed W b t v) (u : Value) (hne : b ≠ b') : Boxed (W.setCell ⟨b', 0, none⟩ u) b t v := h.kept (grownBy_setCell' W b' u) (by simpa using hne)
theorem row_set {W : World} {b base n : Nat} {t e : TypeId} {v u0 : Value} {xs : List Value} {size : Nat} (h : W.ownsRow base e size v n xs) (hb : Boxed W b t u0) (ht : t ≠ e) (u : Value) : (W.setCell ⟨b, 0, none⟩ u).ownsRow base e size v n xs :=
  h.kept (grownBy_setCell' W b u) (.inr fun e' => hb.not_row ht h e'.symm)

/-- Where the two places have moved. -/
theorem moved {W : World} {h : Nat} {vb : Value} {i j : Nat} {es : List E} (hv : Vars W h vb i j es) (p q : Nat) :
    Vars ((W.setCell ⟨h + 2, 0, none⟩ (.int .i64 (p : Int))).setCell ⟨h + 3, 0, none⟩ (.int .i64 (q : Int))) h vb p q es ∧
    Below h W ((W.setCell ⟨h + 2, 0, none⟩ (.int .i64 (p : Int))).setCell ⟨h + 3, 0, none⟩ (.int .i64 (q : Int))) ∧ KpE W ((W.setCell ⟨h + 2, 0, none⟩ (.int .i64 (p : Int))).setCell ⟨h + 3, 0, none⟩ (.int .i64 (q : Int))) := by
  obtain ⟨hb, hbi, hbj, v, xs, hl, hrow, hE⟩ := hv
  have hj1 := box_set hbj (.int .i64 (p : Int)) (b' := h + 2) (by omega)
  have hk : KpE W ((W.setCell ⟨h + 2, 0, none⟩ (.int .i64 (p : Int))).setCell ⟨h + 3, 0, none⟩ (.int .i64 (q : Int))) := (kpE_set _ hbi (.inl rfl)).trans (kpE_set _ hj1 (.inl rfl))
  refine ⟨⟨box_set (box_set hb _ (by omega)) _ (by omega), box_set (hbi.set _) _ (by omega), hj1.set _, v, xs, box_set (box_set hl _ (by omega)) _ (by omega), row_set (row_set hrow hbi (by decide) _) hj1 (by decide) _, hE.kept hk⟩, ?_, hk⟩
  exact ((Below.refl _ _).setCell (p := ⟨h + 2, 0, none⟩) (by show h ≤ h + 2; omega) _).setCell (p := ⟨h + 3, 0, none⟩) (by show h ≤ h + 3; omega) _

theorem moved2 {W W1 : World} {h : Nat} {vb : Value} {i j : Nat} {es : List E} (h0 : Vars W1 h vb i j es ∧ Below h W W1 ∧ KpE W W1) (p q : Nat) :
    Vars ((W1.setCell ⟨h + 2, 0, none⟩ (.int .i64 (p : Int))).setCell ⟨h + 3, 0, none⟩ (.int .i64 (q : Int))) h vb p q es ∧
    Below h W ((W1.setCell ⟨h + 2, 0, none⟩ (.int .i64 (p : Int))).setCell ⟨h + 3, 0, none⟩ (.int .i64 (q : Int))) ∧ KpE W ((W1.setCell ⟨h + 2, 0, none⟩ (.int .i64 (p : Int))).setCell ⟨h + 3, 0, none⟩ (.int .i64 (q : Int))) := by
  obtain ⟨h1, h2, h3⟩ := h0
  obtain ⟨k1, k2, k3⟩ := moved h1 p q
  exact ⟨k1, h2.trans k2, h3.trans k3⟩

theorem cell_gn {W w1 : World} {row : Option Nat} {b : Nat} {u : Value} (hg : W.grownBy w1 row) (hb : b < W.heap.size) (hne : some b ≠ row) (hc : W.cell? ⟨b, 0, none⟩ = some u) : w1.cell? ⟨b, 0, none⟩ = some u := by
  have e := hg.block b hb hne
  unfold World.cell? at hc ⊢
  rw [e]; exact hc

theorem cell_al {W : World} {p : Addr} {u : Value} (o : Obj) (h : W.cell? p = some u) : (W.alloc o).cell? p = some u := (((Below.refl _ W).alloc (Nat.le_refl _) o).cell (p := p) (World.block_lt_of_cell? W p h)).trans h

/-- Where an edit has been told. -/
theorem told {W w1 w2 : World} {h i j ne k c1 gg cap : Nat} {vb v : Value} {A1 : Option Addr} {es : List E} {xs : List Value} {x : E} {o : Obj} (hb : Boxed W h 33 vb) (hbi : Boxed W (h + 2) 3 (.int .i64 (i : Int))) (hbj : Boxed W (h + 3) 3 (.int .i64 (j : Int)))
    (hl : Boxed W (h + 1) 87 v) (hrow : W.ownsRow h 90 3 v ne xs) (hE : ECells W h es xs) (hne : es.length = ne) (hk : x.new.length = k) (hh : h ≤ W.heap.size)
    (hr1 : w1.ownsRow W.heap.size 9 1 (.slice A1 k c1) k (x.new.map strV)) (hg1 : W.drew.grownBy w1 none) (hgrow : (w1.alloc o).grownBy w2 v.ownBlock)
    (hown : w2.ownsRow h 90 3 (.slice (some ⟨gg, 0, none⟩) (ne + 1) cap) (ne + 1) (xs ++ [.int .i64 x.pos, .int .i64 x.old, .slice A1 k c1])) (hp : I64 x.pos) (ho : I64 x.old) (hl1 : x.new.length ≤ maxLen) :
    (Boxed w2 h 33 vb ∧ Boxed w2 (h + 1) 87 v ∧ Boxed w2 (h + 2) 3 (.int .i64 (i : Int)) ∧ Boxed w2 (h + 3) 3 (.int .i64 (j : Int))) ∧
    Vars (w2.setCell ⟨h + 1, 0, none⟩ (.slice (some ⟨gg, 0, none⟩) (ne + 1) cap)) h vb i j (es ++ [x]) ∧
    Below h W (w2.setCell ⟨h + 1, 0, none⟩ (.slice (some ⟨gg, 0, none⟩) (ne + 1) cap)) ∧ KpE W (w2.setCell ⟨h + 1, 0, none⟩ (.slice (some ⟨gg, 0, none⟩) (ne + 1) cap)) := by
  have hd : W.grownBy W.drew none := ⟨rfl, rfl, rfl, Nat.le_refl _, fun _ _ _ => rfl⟩
  have ha := World.grownBy_alloc w1 o none
  have em : v.ownBlock = none ∨ v.ownBlock ≠ none := Classical.em _
  have nn : ∀ b : Nat, some b ≠ (none : Option Nat) := fun b e => by cases e
  have hrow1 := ((hrow.kept hd em).kept hg1 em).kept ha em
  have up : ∀ {b t u}, Boxed W b t u → t ≠ 90 → Boxed w2 b t u := fun {b t u} hx ht => by
    have h1 := ((hx.kept hd (nn b)).kept hg1 (nn b)).kept ha (nn b)
    exact h1.kept hgrow (h1.not_row ht hrow1)
  have hb2 := up hb (by decide)
  have hi2 := up hbi (by decide)
  have hj2 := up hbj (by decide)
  have hl2 := up hl (by decide)
  have k1 : KpE W (w1.alloc o) := ((kpE_none hd).trans (kpE_none hg1)).trans (kpE_none ha)
  have k2 : KpE (w1.alloc o) w2 := kpE_grown hrow1 hgrow
  have k3 : KpE w2 (w2.setCell ⟨h + 1, 0, none⟩ (.slice (some ⟨gg, 0, none⟩) (ne + 1) cap)) := kpE_set _ hl2 (.inr rfl)
  have b1 : Below h W (w1.alloc o) := (((Below.refl h W).grown hd hh (fun j hj => by cases hj)).grown hg1 (by simpa using hh) (fun j hj => by cases hj)).grown ha (Nat.le_trans hh (by simpa using hg1.size)) (fun j hj => by cases hj)
  subst hk; subst hne
  refine ⟨⟨hb2, hl2, hi2, hj2⟩, ⟨box_set hb2 _ (by omega), box_set hi2 _ (by omega), box_set hj2 _ (by omega), _, xs ++ [.int .i64 x.pos, .int .i64 x.old, .slice A1 x.new.length c1], hl2.set _, ?_, ?_⟩, (b1.grown hgrow (Nat.le_trans hh b1.size) (own_ge hrow1)).setCell (p := ⟨h + 1, 0, none⟩) (by show h ≤ h + 1; omega) _, (k1.trans k2).trans k3⟩
  · rw [List.length_append]; exact row_set hown hl2 (by decide) _
  · exact ecells_snoc ((hE.kept (k1.trans k2)).kept k3) (kpE_row (kpE_row ((own_mono hr1 hh).kept ha (Classical.em _)) k2) k3) hp ho hl1

set_option maxRecDepth 100000 in
set_option maxHeartbeats 1000000 in
theorem tell_no (h i j : Nat) (vb : Value) (es : List E) (W : World) (hv : Vars W h vb i j es) (hi : i ≤ 1000) (hj : j ≤ 1000) :
    Calls Try.prog 82 #[.int .i64 (i : Int), .int .i64 (j : Int), .pointer (some ⟨h + 2, 0, none⟩), .pointer (some ⟨h + 3, 0, none⟩), .pointer (some ⟨h + 1, 0, none⟩), .pointer (some ⟨h, 0, none⟩)] W (TellEnd W h vb i j es) := by
  obtain ⟨hb, hbi, hbj, v, xs, hl, hrow, hE⟩ := hv
  have ci := hbi.cell
  have fi := hbi.frozen
  have cj := hbj.cell
  have fj := hbj.frozen
  go_enter Try.func82, Try.ntmps82
  go_wp2
  refine bodyPost_end (results_none rfl _ _ _) rfl ⟨rfl, moved ⟨hb, hbi, hbj, v, xs, hl, hrow, hE⟩ i j⟩

set_option maxRecDepth 100000 in
set_option maxHeartbeats 4000000 in
theorem tell_at (h i j p q m : Nat) (A : Option Addr) (bs : List (List UInt8)) (es : List E) (W : World) (hv : Vars W h (.slice A m j) i j es) (hm : bs.length = m) (hmc : m ≤ j) (hip : i ≤ p) (hjq : j ≤ q) (hqm : q ≤ m) (hp : p ≤ 1000) (hm1 : m ≤ 1000) (hes : es.length ≤ 10000) (hh : h ≤ W.heap.size)
    (hR : RdS W h A bs) (hor : i < p ∨ j < q) :
    Calls Try.prog 82 #[.int .i64 (p : Int), .int .i64 (q : Int), .pointer (some ⟨h + 2, 0, none⟩), .pointer (some ⟨h + 3, 0, none⟩), .pointer (some ⟨h + 1, 0, none⟩), .pointer (some ⟨h, 0, none⟩)] W (TellEnd W h (.slice A m j) p q (es ++ [⟨i, (p : Int) - i, mid bs j q⟩])) := by
  obtain ⟨i0, hi0, hz0, hz1, hz2⟩ := info_parts info_edit
  obtain ⟨hb, hbi, hbj, v, xs, hl, hrow, hE⟩ := hv
  obtain ⟨ne, hne⟩ : ∃ ne, es.length = ne := ⟨_, rfl⟩
  rw [hne] at hrow hes
  obtain ⟨Av, cv, rfl, hcv, _⟩ := rdE_own hrow hE hne
  have HNE := Lib.hid hne; clear hne
  have cb := hb.cell
  have ci := hbi.cell
  have cj := hbj.cell
  have cl := hl.cell
  have fl := hl.frozen
  have lb := hb.lt
  have li := hbi.lt
  have lj := hbj.lt
  have ll := hl.lt
  have hD := Rd.drop hR (k := j) (cap := j) (by rw [List.length_map, hm]; exact hmc)
  have HM := Lib.hid hm; clear hm
  have hmm : ((bs.map strV).drop j).take (q - j) = (mid bs j q).map strV := mid_map.symm
  have HL : Hid ((mid bs j q).length = q - j) := Lib.hid (by rw [mid_len (by rw [HM.out]; omega)])
  have t1 : (0 : Int) ≤ (j : Int) := by omega
  have t2 : (j : Int) ≤ (q : Int) := by omega
  have t3 : (q : Int) ≤ (j : Int) := by omega
  rw [if_pos rfl] at hD
  have hDT := hD.take (q - j)
  rw [hmm] at hDT
  have HDT := Lib.hid hDT
  clear hD hDT hmm
  have HRD : Hid (∀ w' : World, Below h W w' → RdS w' h A (mid bs j q)) := Lib.hid (fun w' hb' => Rd.below HDT.out hb')
  have HB := Lib.hid hb; have HBI := Lib.hid hbi; have HBJ := Lib.hid hbj; have HBL := Lib.hid hl; have HROW := Lib.hid hrow; have HE := Lib.hid hE
  clear hb hbi hbj hl hrow hE
  have f1 : q - j ≤ 1000000 := by omega
  have f2 : ne + 1 ≤ maxLen := by unfold maxLen; omega
  have f3 : (ne + 1) * 40 ≤ 140737488355328 := by omega
  have f4 : q - j ≤ maxLen := by unfold maxLen; omega
  have hP : I64 ((i : Nat) : Int) := by unfold I64; omega
  have hO : I64 ((p : Int) - i) := by unfold I64; omega
  have HP := Lib.hid hP; have HO := Lib.hid hO; clear hP hO
  have em : (Value.slice Av ne cv).ownBlock = none ∨ (Value.slice Av ne cv).ownBlock ≠ none := Classical.em _
  have nn : ∀ b : Nat, some b ≠ (none : Option Nat) := fun b e => by cases e
  have EM := Lib.hid em; have NN := Lib.hid nn; clear em nn
  have hip' : i < p := by omega
  all_goals
    have hw : IntKind.i64.wrap ((p : Int) - (i : Int)) = (p : Int) - (i : Int) := IntWalk.i64_in _ (by omega)
    go_enter Try.func82, Try.ntmps82
    go_wp2_with fail
    refine wp_region_held_drew (S := (fun w' : World => w'.cell? ⟨h, 0, none⟩ = some (.slice A m j) ∧ w'.cell? ⟨h + 2, 0, none⟩ = some (.int .i64 (i : Int)) ∧ w'.cell? ⟨h + 3, 0, none⟩ = some (.int .i64 (j : Int)))) (by kernel_rfl) ⟨cb, ci, cj⟩ (fun hS0 => ?_)
    refine wpAnyH_take (i := 1) (v := ?_) rfl (by kernel_rfl) (by kernel_rfl) (by kernel_rfl) (fun _ _ _ h => h) (Or.inl ⟨by rfl, ?_⟩) hS0 ?_
    rotate_left
    · intro X hX
      obtain ⟨s1, s2, s3⟩ := hX
      go_simp
      try with_reducible rfl
    simp only [Act.put, List.getElem_toArray, List.getElem_cons_succ, List.getElem_cons_zero, List.setIfInBounds_toArray, List.set_cons_succ, List.set_cons_zero]
    refine wpAnyH_take (i := 2) (v := ?_) rfl (by kernel_rfl) (by kernel_rfl) (by kernel_rfl) (fun _ _ _ h => h) (Or.inl ⟨by rfl, ?_⟩) hS0 ?_
    rotate_left
    · intro X hX
      obtain ⟨s1, s2, s3⟩ := hX
      go_simp
      try with_reducible rfl
    simp only [Act.put, List.getElem_toArray, List.getElem_cons_succ, List.getElem_cons_zero, List.setIfInBounds_toArray, List.set_cons_succ, List.set_cons_zero]
    refine wpAnyH_take (i := 3) (v := ?_) rfl (by kernel_rfl) (by kernel_rfl) (by kernel_rfl) (fun _ _ _ h => h) (Or.inl ⟨by rfl, ?_⟩) hS0 ?_
    rotate_left
    · intro X hX
      obtain ⟨s1, s2, s3⟩ := hX
      go_simp
      try with_reducible rfl
    simp only [Act.put, List.getElem_toArray, List.getElem_cons_succ, List.getElem_cons_zero, List.setIfInBounds_toArray, List.set_cons_succ, List.set_cons_zero]
    refine wpAnyH_take (i := 4) (v := ?_) rfl (by kernel_rfl) (by kernel_rfl) (by kernel_rfl) (fun _ _ _ h => h) (Or.inl ⟨by rfl, ?_⟩) hS0 ?_
    rotate_left
    · intro X hX
      obtain ⟨s1, s2, s3⟩ := hX
      go_simp
      try with_reducible rfl
    simp only [Act.put, List.getElem_toArray, List.getElem_cons_succ, List.getElem_cons_zero, List.setIfInBounds_toArray, List.set_cons_succ, List.set_cons_zero]
    refine wpAnyH_take (i := 5) (v := ?_) rfl (by kernel_rfl) (by kernel_rfl) (by kernel_rfl) (fun _ _ _ h => h) (Or.inl ⟨by rfl, ?_⟩) hS0 ?_
    rotate_left
    · intro X hX
      obtain ⟨s1, s2, s3⟩ := hX
      go_simp
      try with_reducible rfl
    simp only [Act.put, List.getElem_toArray, List.getElem_cons_succ, List.getElem_cons_zero, List.setIfInBounds_toArray, List.set_cons_succ, List.set_cons_zero]
    refine wpAnyH_take (i := 6) (v := ?_) rfl (by kernel_rfl) (by kernel_rfl) (by kernel_rfl) (fun _ _ _ h => h) (Or.inl ⟨by rfl, ?_⟩) hS0 ?_
    rotate_left
    · intro X hX
      obtain ⟨s1, s2, s3⟩ := hX
      go_simp
      try with_reducible rfl
    simp only [Act.put, List.getElem_toArray, List.getElem_cons_succ, List.getElem_cons_zero, List.setIfInBounds_toArray, List.set_cons_succ, List.set_cons_zero]
    refine wpAnyH_take (i := 7) (v := ?_) rfl (by kernel_rfl) (by kernel_rfl) (by kernel_rfl) (fun _ _ _ h => h) (Or.inl ⟨by rfl, ?_⟩) hS0 ?_
    rotate_left
    · intro X hX
      obtain ⟨s1, s2, s3⟩ := hX
      go_simp
      try with_reducible rfl
    simp only [Act.put, List.getElem_toArray, List.getElem_cons_succ, List.getElem_cons_zero, List.setIfInBounds_toArray, List.set_cons_succ, List.set_cons_zero]
    refine wpAnyH_take (i := 8) (v := ?_) rfl (by kernel_rfl) (by kernel_rfl) (by kernel_rfl) (fun _ _ _ h => h) (Or.inl ⟨by rfl, ?_⟩) hS0 ?_
    rotate_left
    · intro X hX
      obtain ⟨s1, s2, s3⟩ := hX
      go_simp
      try with_reducible rfl
    simp only [Act.put, List.getElem_toArray, List.getElem_cons_succ, List.getElem_cons_zero, List.setIfInBounds_toArray, List.set_cons_succ, List.set_cons_zero]
    refine wpAnyH_ready (rs := [0, 9]) (by kernel_rfl) (by simp) ?_
    refine AllReadyH.cons rfl (fun K' hK' => ?_) (AllReadyH.cons rfl (fun K' hK' => ?_) AllReadyH.nil)
    · go_simp
      refine hK'.out _ _ ⟨cb, ci, cj⟩ (fun hS0 => ?_)
      clear hK' K'
      refine wpAnyH_ready (rs := [9]) (by kernel_rfl) (by simp) ?_
      refine AllReadyH.cons rfl (fun K' hK' => ?_) AllReadyH.nil
      go_simp
      refine (own _ _ _ h (mid bs j q) _ HL.out f1 (HRD.out _ (below_drewN (Below.refl h W) 1))).mono ?_
      rintro e w1 ⟨A1, c1, rfl, hr1, hg1⟩
      have HR1 := Lib.hid hr1
      have HG1 := Lib.hid hg1
      have z1 := cell_gn hg1 ll (NN.out _) cl
      have z2 := fun o => cell_al o z1
      clear hr1 hg1
      refine hK'.out _ _ ⟨cell_gn HG1.out lb (NN.out _) cb, cell_gn HG1.out li (NN.out _) ci, cell_gn HG1.out lj (NN.out _) cj⟩ (fun hS0 => ?_)
      clear hK' K'
      refine wpAnyH_take (i := 10) (v := ?_) rfl (by kernel_rfl) (by kernel_rfl) (by kernel_rfl) (fun _ _ _ h => h) (Or.inl ⟨by rfl, ?_⟩) hS0 ?_
      rotate_left
      · intro X hX
        obtain ⟨s1, s2, s3⟩ := hX
        go_simp
        try with_reducible rfl
      simp only [Act.put, List.getElem_toArray, List.getElem_cons_succ, List.getElem_cons_zero, List.setIfInBounds_toArray, List.set_cons_succ, List.set_cons_zero]
      refine wpAnyH_ready (rs := [11]) (by kernel_rfl) (by simp) ?_
      refine AllReadyH.cons rfl (fun K' hK' => ?_) AllReadyH.nil
      go_simp
      refine hK'.out _ _ ⟨cell_al _ (cell_gn HG1.out lb (NN.out _) cb), cell_al _ (cell_gn HG1.out li (NN.out _) ci), cell_al _ (cell_gn HG1.out lj (NN.out _) cj)⟩ (fun hS0 => ?_)
      clear hK' K'
      refine wpAnyH_ready (rs := [12]) (by kernel_rfl) (by simp) ?_
      refine AllReadyH.cons rfl (fun K' hK' => ?_) AllReadyH.nil
      refine step_append_lies _ (by rfl) _ _ _ (by rfl) h 90 i0 _ 3 40 Try.underlying87 hi0 hz0 hz1 hz2 rfl (by decide) (.slice Av ne cv) ne xs (by rfl) ((HROW.out.drew.kept HG1.out EM.out).alloc _) ⟨w1.heap.size, 0, none⟩ 1 1 [.int .i64 (i : Int), .int .i64 ((p : Int) - i), .slice A1 (q - j) c1] (by rfl) (by rfl) (World.news_of_block (cs := #[.int .i64 (i : Int), .int .i64 ((p : Int) - i), .slice A1 (q - j) c1]) (t := 90) (fr := (0, 0)) (heap_alloc_new w1 _)) (by simp [Value.oneCell']) (by decide) f2 f3 (Nat.le_trans hh (Nat.le_trans HG1.out.size (by simp))) (w1.heap.size + 1) (by simp) ?_
      intro gg cap w2 hown2 hgrow hat hlt
      obtain ⟨⟨d0, d1, d2, d3⟩, hT⟩ := told (x := ⟨i, (p : Int) - i, mid bs j q⟩) HB.out HBI.out HBJ.out HBL.out HROW.out HE.out HNE.out HL.out hh HR1.out HG1.out hgrow hown2 HP.out HO.out (Nat.le_trans (Nat.le_of_eq HL.out) f4)
      have HT := Lib.hid hT
      have x0 := d0.cell
      have x1 := d1.cell
      have x2 := d2.cell
      have x3 := d3.cell
      have y1 := d1.frozen
      have y2 := d2.frozen
      have y3 := d3.frozen
      clear hT hgrow hown2
      refine hK'.out _ _ ⟨x0, x2, x3⟩ (fun hS0 => ?_)
      clear hK' K'
      simp only [Act.put, List.getElem_toArray, List.getElem_cons_succ, List.getElem_cons_zero, List.setIfInBounds_toArray, List.set_cons_succ, List.set_cons_zero]
      refine wpAnyH_ready (rs := [13]) (by kernel_rfl) (by simp) ?_
      refine AllReadyH.cons rfl (fun K' hK' => ?_) AllReadyH.nil
      go_simp
      have HT4 := HT
      refine hK'.out _ _ ⟨HT4.out.1.b.cell, HT4.out.1.i.cell, HT4.out.1.j.cell⟩ (fun hS0 => ?_)
      clear hK' K'
      refine wpAnyH_done (by kernel_rfl) ?_ _
      clear hw
      go_wp2
      exact bodyPost_end (results_none rfl _ _ _) rfl ⟨rfl, moved2 HT.out p q⟩
    · go_simp
      refine (own _ _ _ h (mid bs j q) _ HL.out f1 (HRD.out _ (below_drewN (Below.refl h W) 1))).mono ?_
      rintro e w1 ⟨A1, c1, rfl, hr1, hg1⟩
      have HR1 := Lib.hid hr1
      have HG1 := Lib.hid hg1
      have z1 := cell_gn hg1 ll (NN.out _) cl
      have z2 := fun o => cell_al o z1
      clear hr1 hg1
      refine hK'.out _ _ ⟨cell_gn HG1.out lb (NN.out _) cb, cell_gn HG1.out li (NN.out _) ci, cell_gn HG1.out lj (NN.out _) cj⟩ (fun hS0 => ?_)
      clear hK' K'
      refine wpAnyH_take (i := 10) (v := ?_) rfl (by kernel_rfl) (by kernel_rfl) (by kernel_rfl) (fun _ _ _ h => h) (Or.inl ⟨by rfl, ?_⟩) hS0 ?_
      rotate_left
      · intro X hX
        obtain ⟨s1, s2, s3⟩ := hX
        go_simp
        try with_reducible rfl
      simp only [Act.put, List.getElem_toArray, List.getElem_cons_succ, List.getElem_cons_zero, List.setIfInBounds_toArray, List.set_cons_succ, List.set_cons_zero]
      refine wpAnyH_ready (rs := [0, 11]) (by kernel_rfl) (by simp) ?_
      refine AllReadyH.cons rfl (fun K' hK' => ?_) (AllReadyH.cons rfl (fun K' hK' => ?_) AllReadyH.nil)
      · go_simp
        refine hK'.out _ _ ⟨cell_gn HG1.out lb (NN.out _) cb, cell_gn HG1.out li (NN.out _) ci, cell_gn HG1.out lj (NN.out _) cj⟩ (fun hS0 => ?_)
        clear hK' K'
        refine wpAnyH_ready (rs := [11]) (by kernel_rfl) (by simp) ?_
        refine AllReadyH.cons rfl (fun K' hK' => ?_) AllReadyH.nil
        go_simp
        refine hK'.out _ _ ⟨cell_al _ (cell_gn HG1.out lb (NN.out _) cb), cell_al _ (cell_gn HG1.out li (NN.out _) ci), cell_al _ (cell_gn HG1.out lj (NN.out _) cj)⟩ (fun hS0 => ?_)
        clear hK' K'
        refine wpAnyH_ready (rs := [12]) (by kernel_rfl) (by simp) ?_
        refine AllReadyH.cons rfl (fun K' hK' => ?_) AllReadyH.nil
        refine step_append_lies _ (by rfl) _ _ _ (by rfl) h 90 i0 _ 3 40 Try.underlying87 hi0 hz0 hz1 hz2 rfl (by decide) (.slice Av ne cv) ne xs (by rfl) ((HROW.out.drew.kept HG1.out EM.out).alloc _) ⟨w1.heap.size, 0, none⟩ 1 1 [.int .i64 (i : Int), .int .i64 ((p : Int) - i), .slice A1 (q - j) c1] (by rfl) (by rfl) (World.news_of_block (cs := #[.int .i64 (i : Int), .int .i64 ((p : Int) - i), .slice A1 (q - j) c1]) (t := 90) (fr := (0, 0)) (heap_alloc_new w1 _)) (by simp [Value.oneCell']) (by decide) f2 f3 (Nat.le_trans hh (Nat.le_trans HG1.out.size (by simp))) (w1.heap.size + 1) (by simp) ?_
        intro gg cap w2 hown2 hgrow hat hlt
        obtain ⟨⟨d0, d1, d2, d3⟩, hT⟩ := told (x := ⟨i, (p : Int) - i, mid bs j q⟩) HB.out HBI.out HBJ.out HBL.out HROW.out HE.out HNE.out HL.out hh HR1.out HG1.out hgrow hown2 HP.out HO.out (Nat.le_trans (Nat.le_of_eq HL.out) f4)
        have HT := Lib.hid hT
        have x0 := d0.cell
        have x1 := d1.cell
        have x2 := d2.cell
        have x3 := d3.cell
        have y1 := d1.frozen
        have y2 := d2.frozen
        have y3 := d3.frozen
        clear hT hgrow hown2
        refine hK'.out _ _ ⟨x0, x2, x3⟩ (fun hS0 => ?_)
        clear hK' K'
        simp only [Act.put, List.getElem_toArray, List.getElem_cons_succ, List.getElem_cons_zero, List.setIfInBounds_toArray, List.set_cons_succ, List.set_cons_zero]
        refine wpAnyH_ready (rs := [13]) (by kernel_rfl) (by simp) ?_
        refine AllReadyH.cons rfl (fun K' hK' => ?_) AllReadyH.nil
        go_simp
        have HT4 := HT
        refine hK'.out _ _ ⟨HT4.out.1.b.cell, HT4.out.1.i.cell, HT4.out.1.j.cell⟩ (fun hS0 => ?_)
        clear hK' K'
        refine wpAnyH_done (by kernel_rfl) ?_ _
        clear hw
        go_wp2
        exact bodyPost_end (results_none rfl _ _ _) rfl ⟨rfl, moved2 HT.out p q⟩
      · go_simp
        refine hK'.out _ _ ⟨cell_al _ (cell_gn HG1.out lb (NN.out _) cb), cell_al _ (cell_gn HG1.out li (NN.out _) ci), cell_al _ (cell_gn HG1.out lj (NN.out _) cj)⟩ (fun hS0 => ?_)
        clear hK' K'
        refine wpAnyH_ready (rs := [0]) (by kernel_rfl) (by simp) ?_
        refine AllReadyH.cons rfl (fun K' hK' => ?_) AllReadyH.nil
        go_simp
        refine hK'.out _ _ ⟨cell_al _ (cell_gn HG1.out lb (NN.out _) cb), cell_al _ (cell_gn HG1.out li (NN.out _) ci), cell_al _ (cell_gn HG1.out lj (NN.out _) cj)⟩ (fun hS0 => ?_)
        clear hK' K'
        refine wpAnyH_ready (rs := [12]) (by kernel_rfl) (by simp) ?_
        refine AllReadyH.cons rfl (fun K' hK' => ?_) AllReadyH.nil
        refine step_append_lies _ (by rfl) _ _ _ (by rfl) h 90 i0 _ 3 40 Try.underlying87 hi0 hz0 hz1 hz2 rfl (by decide) (.slice Av ne cv) ne xs (by rfl) ((HROW.out.drew.kept HG1.out EM.out).alloc _) ⟨w1.heap.size, 0, none⟩ 1 1 [.int .i64 (i : Int), .int .i64 ((p : Int) - i), .slice A1 (q - j) c1] (by rfl) (by rfl) (World.news_of_block (cs := #[.int .i64 (i : Int), .int .i64 ((p : Int) - i), .slice A1 (q - j) c1]) (t := 90) (fr := (0, 0)) (heap_alloc_new w1 _)) (by simp [Value.oneCell']) (by decide) f2 f3 (Nat.le_trans hh (Nat.le_trans HG1.out.size (by simp))) (w1.heap.size + 1) (by simp) ?_
        intro gg cap w2 hown2 hgrow hat hlt
        obtain ⟨⟨d0, d1, d2, d3⟩, hT⟩ := told (x := ⟨i, (p : Int) - i, mid bs j q⟩) HB.out HBI.out HBJ.out HBL.out HROW.out HE.out HNE.out HL.out hh HR1.out HG1.out hgrow hown2 HP.out HO.out (Nat.le_trans (Nat.le_of_eq HL.out) f4)
        have HT := Lib.hid hT
        have x0 := d0.cell
        have x1 := d1.cell
        have x2 := d2.cell
        have x3 := d3.cell
        have y1 := d1.frozen
        have y2 := d2.frozen
        have y3 := d3.frozen
        clear hT hgrow hown2
        refine hK'.out _ _ ⟨x0, x2, x3⟩ (fun hS0 => ?_)
        clear hK' K'
        simp only [Act.put, List.getElem_toArray, List.getElem_cons_succ, List.getElem_cons_zero, List.setIfInBounds_toArray, List.set_cons_succ, List.set_cons_zero]
        refine wpAnyH_ready (rs := [13]) (by kernel_rfl) (by simp) ?_
        refine AllReadyH.cons rfl (fun K' hK' => ?_) AllReadyH.nil
        go_simp
        have HT4 := HT
        refine hK'.out _ _ ⟨HT4.out.1.b.cell, HT4.out.1.i.cell, HT4.out.1.j.cell⟩ (fun hS0 => ?_)
        clear hK' K'
        refine wpAnyH_done (by kernel_rfl) ?_ _
        clear hw
        go_wp2
        exact bodyPost_end (results_none rfl _ _ _) rfl ⟨rfl, moved2 HT.out p q⟩

set_option maxRecDepth 100000 in
set_option maxHeartbeats 4000000 in
theorem tell_un (h i j p q m c : Nat) (A : Option Addr) (bs : List (List UInt8)) (es : List E) (W : World) (hv : Vars W h (.slice A m c) i j es) (hm : bs.length = m) (hmc : m ≤ c) (hip : i ≤ p) (hjq : j ≤ q) (hqm : q ≤ m) (hp : p ≤ 1000) (hm1 : m ≤ 1000) (hes : es.length ≤ 10000) (hh : h ≤ W.heap.size)
    (hR : RdS W h A bs) (hor : i < p ∨ j < q) (hcj : ¬ c = j) :
    Calls Try.prog 82 #[.int .i64 (p : Int), .int .i64 (q : Int), .pointer (some ⟨h + 2, 0, none⟩), .pointer (some ⟨h + 3, 0, none⟩), .pointer (some ⟨h + 1, 0, none⟩), .pointer (some ⟨h, 0, none⟩)] W (TellEnd W h (.slice A m c) p q (es ++ [⟨i, (p : Int) - i, mid bs j q⟩])) := by
  obtain ⟨i0, hi0, hz0, hz1, hz2⟩ := info_parts info_edit
  obtain ⟨hb, hbi, hbj, v, xs, hl, hrow, hE⟩ := hv
  obtain ⟨ne, hne⟩ : ∃ ne, es.length = ne := ⟨_, rfl⟩
  rw [hne] at hrow hes
  obtain ⟨Av, cv, rfl, hcv, _⟩ := rdE_own hrow hE hne
  have HNE := Lib.hid hne; clear hne
  have cb := hb.cell
  have ci := hbi.cell
  have cj := hbj.cell
  have cl := hl.cell
  have fl := hl.frozen
  have lb := hb.lt
  have li := hbi.lt
  have lj := hbj.lt
  have ll := hl.lt
  have hD := Rd.drop hR (k := j) (cap := c) (by rw [List.length_map, hm]; exact hmc)
  have HM := Lib.hid hm; clear hm
  have hmm : ((bs.map strV).drop j).take (q - j) = (mid bs j q).map strV := mid_map.symm
  have HL : Hid ((mid bs j q).length = q - j) := Lib.hid (by rw [mid_len (by rw [HM.out]; omega)])
  have t1 : (0 : Int) ≤ (j : Int) := by omega
  have t2 : (j : Int) ≤ (q : Int) := by omega
  have t3 : (q : Int) ≤ (c : Int) := by omega
  rw [if_neg hcj] at hD
  have hDT := hD.take (q - j)
  rw [hmm] at hDT
  have HDT := Lib.hid hDT
  clear hD hDT hmm
  have HRD : Hid (∀ w' : World, Below h W w' → RdS w' h (A.map (·.add j)) (mid bs j q)) := Lib.hid (fun w' hb' => Rd.below HDT.out hb')
  have HB := Lib.hid hb; have HBI := Lib.hid hbi; have HBJ := Lib.hid hbj; have HBL := Lib.hid hl; have HROW := Lib.hid hrow; have HE := Lib.hid hE
  clear hb hbi hbj hl hrow hE
  have f1 : q - j ≤ 1000000 := by omega
  have f2 : ne + 1 ≤ maxLen := by unfold maxLen; omega
  have f3 : (ne + 1) * 40 ≤ 140737488355328 := by omega
  have f4 : q - j ≤ maxLen := by unfold maxLen; omega
  have hP : I64 ((i : Nat) : Int) := by unfold I64; omega
  have hO : I64 ((p : Int) - i) := by unfold I64; omega
  have HP := Lib.hid hP; have HO := Lib.hid hO; clear hP hO
  have em : (Value.slice Av ne cv).ownBlock = none ∨ (Value.slice Av ne cv).ownBlock ≠ none := Classical.em _
  have nn : ∀ b : Nat, some b ≠ (none : Option Nat) := fun b e => by cases e
  have EM := Lib.hid em; have NN := Lib.hid nn; clear em nn
  by_cases hip' : i < p
  all_goals
    have hw : IntKind.i64.wrap ((p : Int) - (i : Int)) = (p : Int) - (i : Int) := IntWalk.i64_in _ (by omega)
    go_enter Try.func82, Try.ntmps82
    go_wp2_with fail
    refine wp_region_held_drew (S := (fun w' : World => w'.cell? ⟨h, 0, none⟩ = some (.slice A m c) ∧ w'.cell? ⟨h + 2, 0, none⟩ = some (.int .i64 (i : Int)) ∧ w'.cell? ⟨h + 3, 0, none⟩ = some (.int .i64 (j : Int)))) (by kernel_rfl) ⟨cb, ci, cj⟩ (fun hS0 => ?_)
    refine wpAnyH_take (i := 1) (v := ?_) rfl (by kernel_rfl) (by kernel_rfl) (by kernel_rfl) (fun _ _ _ h => h) (Or.inl ⟨by rfl, ?_⟩) hS0 ?_
    rotate_left
    · intro X hX
      obtain ⟨s1, s2, s3⟩ := hX
      go_simp
      try with_reducible rfl
    simp only [Act.put, List.getElem_toArray, List.getElem_cons_succ, List.getElem_cons_zero, List.setIfInBounds_toArray, List.set_cons_succ, List.set_cons_zero]
    refine wpAnyH_take (i := 2) (v := ?_) rfl (by kernel_rfl) (by kernel_rfl) (by kernel_rfl) (fun _ _ _ h => h) (Or.inl ⟨by rfl, ?_⟩) hS0 ?_
    rotate_left
    · intro X hX
      obtain ⟨s1, s2, s3⟩ := hX
      go_simp
      try with_reducible rfl
    simp only [Act.put, List.getElem_toArray, List.getElem_cons_succ, List.getElem_cons_zero, List.setIfInBounds_toArray, List.set_cons_succ, List.set_cons_zero]
    refine wpAnyH_take (i := 3) (v := ?_) rfl (by kernel_rfl) (by kernel_rfl) (by kernel_rfl) (fun _ _ _ h => h) (Or.inl ⟨by rfl, ?_⟩) hS0 ?_
    rotate_left
    · intro X hX
      obtain ⟨s1, s2, s3⟩ := hX
      go_simp
      try with_reducible rfl
    simp only [Act.put, List.getElem_toArray, List.getElem_cons_succ, List.getElem_cons_zero, List.setIfInBounds_toArray, List.set_cons_succ, List.set_cons_zero]
    refine wpAnyH_take (i := 4) (v := ?_) rfl (by kernel_rfl) (by kernel_rfl) (by kernel_rfl) (fun _ _ _ h => h) (Or.inl ⟨by rfl, ?_⟩) hS0 ?_
    rotate_left
    · intro X hX
      obtain ⟨s1, s2, s3⟩ := hX
      go_simp
      try with_reducible rfl
    simp only [Act.put, List.getElem_toArray, List.getElem_cons_succ, List.getElem_cons_zero, List.setIfInBounds_toArray, List.set_cons_succ, List.set_cons_zero]
    refine wpAnyH_take (i := 5) (v := ?_) rfl (by kernel_rfl) (by kernel_rfl) (by kernel_rfl) (fun _ _ _ h => h) (Or.inl ⟨by rfl, ?_⟩) hS0 ?_
    rotate_left
    · intro X hX
      obtain ⟨s1, s2, s3⟩ := hX
      go_simp
      try with_reducible rfl
    simp only [Act.put, List.getElem_toArray, List.getElem_cons_succ, List.getElem_cons_zero, List.setIfInBounds_toArray, List.set_cons_succ, List.set_cons_zero]
    refine wpAnyH_take (i := 6) (v := ?_) rfl (by kernel_rfl) (by kernel_rfl) (by kernel_rfl) (fun _ _ _ h => h) (Or.inl ⟨by rfl, ?_⟩) hS0 ?_
    rotate_left
    · intro X hX
      obtain ⟨s1, s2, s3⟩ := hX
      go_simp
      try with_reducible rfl
    simp only [Act.put, List.getElem_toArray, List.getElem_cons_succ, List.getElem_cons_zero, List.setIfInBounds_toArray, List.set_cons_succ, List.set_cons_zero]
    refine wpAnyH_take (i := 7) (v := ?_) rfl (by kernel_rfl) (by kernel_rfl) (by kernel_rfl) (fun _ _ _ h => h) (Or.inl ⟨by rfl, ?_⟩) hS0 ?_
    rotate_left
    · intro X hX
      obtain ⟨s1, s2, s3⟩ := hX
      go_simp
      try with_reducible rfl
    simp only [Act.put, List.getElem_toArray, List.getElem_cons_succ, List.getElem_cons_zero, List.setIfInBounds_toArray, List.set_cons_succ, List.set_cons_zero]
    refine wpAnyH_take (i := 8) (v := ?_) rfl (by kernel_rfl) (by kernel_rfl) (by kernel_rfl) (fun _ _ _ h => h) (Or.inl ⟨by rfl, ?_⟩) hS0 ?_
    rotate_left
    · intro X hX
      obtain ⟨s1, s2, s3⟩ := hX
      go_simp
      try with_reducible rfl
    simp only [Act.put, List.getElem_toArray, List.getElem_cons_succ, List.getElem_cons_zero, List.setIfInBounds_toArray, List.set_cons_succ, List.set_cons_zero]
    refine wpAnyH_ready (rs := [0, 9]) (by kernel_rfl) (by simp) ?_
    refine AllReadyH.cons rfl (fun K' hK' => ?_) (AllReadyH.cons rfl (fun K' hK' => ?_) AllReadyH.nil)
    · go_simp
      refine hK'.out _ _ ⟨cb, ci, cj⟩ (fun hS0 => ?_)
      clear hK' K'
      refine wpAnyH_ready (rs := [9]) (by kernel_rfl) (by simp) ?_
      refine AllReadyH.cons rfl (fun K' hK' => ?_) AllReadyH.nil
      go_simp
      refine (own _ _ _ h (mid bs j q) _ HL.out f1 (HRD.out _ (below_drewN (Below.refl h W) 1))).mono ?_
      rintro e w1 ⟨A1, c1, rfl, hr1, hg1⟩
      have HR1 := Lib.hid hr1
      have HG1 := Lib.hid hg1
      have z1 := cell_gn hg1 ll (NN.out _) cl
      have z2 := fun o => cell_al o z1
      clear hr1 hg1
      refine hK'.out _ _ ⟨cell_gn HG1.out lb (NN.out _) cb, cell_gn HG1.out li (NN.out _) ci, cell_gn HG1.out lj (NN.out _) cj⟩ (fun hS0 => ?_)
      clear hK' K'
      refine wpAnyH_take (i := 10) (v := ?_) rfl (by kernel_rfl) (by kernel_rfl) (by kernel_rfl) (fun _ _ _ h => h) (Or.inl ⟨by rfl, ?_⟩) hS0 ?_
      rotate_left
      · intro X hX
        obtain ⟨s1, s2, s3⟩ := hX
        go_simp
        try with_reducible rfl
      simp only [Act.put, List.getElem_toArray, List.getElem_cons_succ, List.getElem_cons_zero, List.setIfInBounds_toArray, List.set_cons_succ, List.set_cons_zero]
      refine wpAnyH_ready (rs := [11]) (by kernel_rfl) (by simp) ?_
      refine AllReadyH.cons rfl (fun K' hK' => ?_) AllReadyH.nil
      go_simp
      refine hK'.out _ _ ⟨cell_al _ (cell_gn HG1.out lb (NN.out _) cb), cell_al _ (cell_gn HG1.out li (NN.out _) ci), cell_al _ (cell_gn HG1.out lj (NN.out _) cj)⟩ (fun hS0 => ?_)
      clear hK' K'
      refine wpAnyH_ready (rs := [12]) (by kernel_rfl) (by simp) ?_
      refine AllReadyH.cons rfl (fun K' hK' => ?_) AllReadyH.nil
      refine step_append_lies _ (by rfl) _ _ _ (by rfl) h 90 i0 _ 3 40 Try.underlying87 hi0 hz0 hz1 hz2 rfl (by decide) (.slice Av ne cv) ne xs (by rfl) ((HROW.out.drew.kept HG1.out EM.out).alloc _) ⟨w1.heap.size, 0, none⟩ 1 1 [.int .i64 (i : Int), .int .i64 ((p : Int) - i), .slice A1 (q - j) c1] (by rfl) (by rfl) (World.news_of_block (cs := #[.int .i64 (i : Int), .int .i64 ((p : Int) - i), .slice A1 (q - j) c1]) (t := 90) (fr := (0, 0)) (heap_alloc_new w1 _)) (by simp [Value.oneCell']) (by decide) f2 f3 (Nat.le_trans hh (Nat.le_trans HG1.out.size (by simp))) (w1.heap.size + 1) (by simp) ?_
      intro gg cap w2 hown2 hgrow hat hlt
      obtain ⟨⟨d0, d1, d2, d3⟩, hT⟩ := told (x := ⟨i, (p : Int) - i, mid bs j q⟩) HB.out HBI.out HBJ.out HBL.out HROW.out HE.out HNE.out HL.out hh HR1.out HG1.out hgrow hown2 HP.out HO.out (Nat.le_trans (Nat.le_of_eq HL.out) f4)
      have HT := Lib.hid hT
      have x0 := d0.cell
      have x1 := d1.cell
      have x2 := d2.cell
      have x3 := d3.cell
      have y1 := d1.frozen
      have y2 := d2.frozen
      have y3 := d3.frozen
      clear hT hgrow hown2
      refine hK'.out _ _ ⟨x0, x2, x3⟩ (fun hS0 => ?_)
      clear hK' K'
      simp only [Act.put, List.getElem_toArray, List.getElem_cons_succ, List.getElem_cons_zero, List.setIfInBounds_toArray, List.set_cons_succ, List.set_cons_zero]
      refine wpAnyH_ready (rs := [13]) (by kernel_rfl) (by simp) ?_
      refine AllReadyH.cons rfl (fun K' hK' => ?_) AllReadyH.nil
      go_simp
      have HT4 := HT
      refine hK'.out _ _ ⟨HT4.out.1.b.cell, HT4.out.1.i.cell, HT4.out.1.j.cell⟩ (fun hS0 => ?_)
      clear hK' K'
      refine wpAnyH_done (by kernel_rfl) ?_ _
      clear hw
      go_wp2
      exact bodyPost_end (results_none rfl _ _ _) rfl ⟨rfl, moved2 HT.out p q⟩
    · go_simp
      refine (own _ _ _ h (mid bs j q) _ HL.out f1 (HRD.out _ (below_drewN (Below.refl h W) 1))).mono ?_
      rintro e w1 ⟨A1, c1, rfl, hr1, hg1⟩
      have HR1 := Lib.hid hr1
      have HG1 := Lib.hid hg1
      have z1 := cell_gn hg1 ll (NN.out _) cl
      have z2 := fun o => cell_al o z1
      clear hr1 hg1
      refine hK'.out _ _ ⟨cell_gn HG1.out lb (NN.out _) cb, cell_gn HG1.out li (NN.out _) ci, cell_gn HG1.out lj (NN.out _) cj⟩ (fun hS0 => ?_)
      clear hK' K'
      refine wpAnyH_take (i := 10) (v := ?_) rfl (by kernel_rfl) (by kernel_rfl) (by kernel_rfl) (fun _ _ _ h => h) (Or.inl ⟨by rfl, ?_⟩) hS0 ?_
      rotate_left
      · intro X hX
        obtain ⟨s1, s2, s3⟩ := hX
        go_simp
        try with_reducible rfl
      simp only [Act.put, List.getElem_toArray, List.getElem_cons_succ, List.getElem_cons_zero, List.setIfInBounds_toArray, List.set_cons_succ, List.set_cons_zero]
      refine wpAnyH_ready (rs := [0, 11]) (by kernel_rfl) (by simp) ?_
      refine AllReadyH.cons rfl (fun K' hK' => ?_) (AllReadyH.cons rfl (fun K' hK' => ?_) AllReadyH.nil)
      · go_simp
        refine hK'.out _ _ ⟨cell_gn HG1.out lb (NN.out _) cb, cell_gn HG1.out li (NN.out _) ci, cell_gn HG1.out lj (NN.out _) cj⟩ (fun hS0 => ?_)
        clear hK' K'
        refine wpAnyH_ready (rs := [11]) (by kernel_rfl) (by simp) ?_
        refine AllReadyH.cons rfl (fun K' hK' => ?_) AllReadyH.nil
        go_simp
        refine hK'.out _ _ ⟨cell_al _ (cell_gn HG1.out lb (NN.out _) cb), cell_al _ (cell_gn HG1.out li (NN.out _) ci), cell_al _ (cell_gn HG1.out lj (NN.out _) cj)⟩ (fun hS0 => ?_)
        clear hK' K'
        refine wpAnyH_ready (rs := [12]) (by kernel_rfl) (by simp) ?_
        refine AllReadyH.cons rfl (fun K' hK' => ?_) AllReadyH.nil
        refine step_append_lies _ (by rfl) _ _ _ (by rfl) h 90 i0 _ 3 40 Try.underlying87 hi0 hz0 hz1 hz2 rfl (by decide) (.slice Av ne cv) ne xs (by rfl) ((HROW.out.drew.kept HG1.out EM.out).alloc _) ⟨w1.heap.size, 0, none⟩ 1 1 [.int .i64 (i : Int), .int .i64 ((p : Int) - i), .slice A1 (q - j) c1] (by rfl) (by rfl) (World.news_of_block (cs := #[.int .i64 (i : Int), .int .i64 ((p : Int) - i), .slice A1 (q - j) c1]) (t := 90) (fr := (0, 0)) (heap_alloc_new w1 _)) (by simp [Value.oneCell']) (by decide) f2 f3 (Nat.le_trans hh (Nat.le_trans HG1.out.size (by simp))) (w1.heap.size + 1) (by simp) ?_
        intro gg cap w2 hown2 hgrow hat hlt
        obtain ⟨⟨d0, d1, d2, d3⟩, hT⟩ := told (x := ⟨i, (p : Int) - i, mid bs j q⟩) HB.out HBI.out HBJ.out HBL.out HROW.out HE.out HNE.out HL.out hh HR1.out HG1.out hgrow hown2 HP.out HO.out (Nat.le_trans (Nat.le_of_eq HL.out) f4)
        have HT := Lib.hid hT
        have x0 := d0.cell
        have x1 := d1.cell
        have x2 := d2.cell
        have x3 := d3.cell
        have y1 := d1.frozen
        have y2 := d2.frozen
        have y3 := d3.frozen
        clear hT hgrow hown2
        refine hK'.out _ _ ⟨x0, x2, x3⟩ (fun hS0 => ?_)
        clear hK' K'
        simp only [Act.put, List.getElem_toArray, List.getElem_cons_succ, List.getElem_cons_zero, List.setIfInBounds_toArray, List.set_cons_succ, List.set_cons_zero]
        refine wpAnyH_ready (rs := [13]) (by kernel_rfl) (by simp) ?_
        refine AllReadyH.cons rfl (fun K' hK' => ?_) AllReadyH.nil
        go_simp
        have HT4 := HT
        refine hK'.out _ _ ⟨HT4.out.1.b.cell, HT4.out.1.i.cell, HT4.out.1.j.cell⟩ (fun hS0 => ?_)
        clear hK' K'
        refine wpAnyH_done (by kernel_rfl) ?_ _
        clear hw
        go_wp2
        exact bodyPost_end (results_none rfl _ _ _) rfl ⟨rfl, moved2 HT.out p q⟩
      · go_simp
        refine hK'.out _ _ ⟨cell_al _ (cell_gn HG1.out lb (NN.out _) cb), cell_al _ (cell_gn HG1.out li (NN.out _) ci), cell_al _ (cell_gn HG1.out lj (NN.out _) cj)⟩ (fun hS0 => ?_)
        clear hK' K'
        refine wpAnyH_ready (rs := [0]) (by kernel_rfl) (by simp) ?_
        refine AllReadyH.cons rfl (fun K' hK' => ?_) AllReadyH.nil
        go_simp
        refine hK'.out _ _ ⟨cell_al _ (cell_gn HG1.out lb (NN.out _) cb), cell_al _ (cell_gn HG1.out li (NN.out _) ci), cell_al _ (cell_gn HG1.out lj (NN.out _) cj)⟩ (fun hS0 => ?_)
        clear hK' K'
        refine wpAnyH_ready (rs := [12]) (by kernel_rfl) (by simp) ?_
        refine AllReadyH.cons rfl (fun K' hK' => ?_) AllReadyH.nil
        refine step_append_lies _ (by rfl) _ _ _ (by rfl) h 90 i0 _ 3 40 Try.underlying87 hi0 hz0 hz1 hz2 rfl (by decide) (.slice Av ne cv) ne xs (by rfl) ((HROW.out.drew.kept HG1.out EM.out).alloc _) ⟨w1.heap.size, 0, none⟩ 1 1 [.int .i64 (i : Int), .int .i64 ((p : Int) - i), .slice A1 (q - j) c1] (by rfl) (by rfl) (World.news_of_block (cs := #[.int .i64 (i : Int), .int .i64 ((p : Int) - i), .slice A1 (q - j) c1]) (t := 90) (fr := (0, 0)) (heap_alloc_new w1 _)) (by simp [Value.oneCell']) (by decide) f2 f3 (Nat.le_trans hh (Nat.le_trans HG1.out.size (by simp))) (w1.heap.size + 1) (by simp) ?_
        intro gg cap w2 hown2 hgrow hat hlt
        obtain ⟨⟨d0, d1, d2, d3⟩, hT⟩ := told (x := ⟨i, (p : Int) - i, mid bs j q⟩) HB.out HBI.out HBJ.out HBL.out HROW.out HE.out HNE.out HL.out hh HR1.out HG1.out hgrow hown2 HP.out HO.out (Nat.le_trans (Nat.le_of_eq HL.out) f4)
        have HT := Lib.hid hT
        have x0 := d0.cell
        have x1 := d1.cell
        have x2 := d2.cell
        have x3 := d3.cell
        have y1 := d1.frozen
        have y2 := d2.frozen
        have y3 := d3.frozen
        clear hT hgrow hown2
        refine hK'.out _ _ ⟨x0, x2, x3⟩ (fun hS0 => ?_)
        clear hK' K'
        simp only [Act.put, List.getElem_toArray, List.getElem_cons_succ, List.getElem_cons_zero, List.setIfInBounds_toArray, List.set_cons_succ, List.set_cons_zero]
        refine wpAnyH_ready (rs := [13]) (by kernel_rfl) (by simp) ?_
        refine AllReadyH.cons rfl (fun K' hK' => ?_) AllReadyH.nil
        go_simp
        have HT4 := HT
        refine hK'.out _ _ ⟨HT4.out.1.b.cell, HT4.out.1.i.cell, HT4.out.1.j.cell⟩ (fun hS0 => ?_)
        clear hK' K'
        refine wpAnyH_done (by kernel_rfl) ?_ _
        clear hw
        go_wp2
        exact bodyPost_end (results_none rfl _ _ _) rfl ⟨rfl, moved2 HT.out p q⟩

end Df
end Go.Proofs.Ytjhjmfodpnipiaa
