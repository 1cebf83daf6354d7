/-
  What package flow's Turn returns (walk): changes turned, from the last one on, by a range over slices.Backward.
-/
import Derived.Test.YtjhjmfodpnipiaaGreatFlBack
import Derived.Test.YtjhjmfodpnipiaaGreatFlThru
import Derived.Test.YtjhjmfodpnipiaaGreatFlHi
import Derived.Test.YtjhjmfodpnipiaaGreatPrTurn
set_option maxRecDepth 100000
namespace Go.Proofs.YtjhjmfodpnipiaaGreat
open Go.RowKit Go.Shelf
set_option linter.unusedVariables false
set_option linter.unusedSimpArgs false
namespace Fl
open Tx Df Sq Hk Tr Pr Rg
attribute [local go_sem] Oper.semAt_some

section
variable {W : World} {S : Nat → Prop} {base m c : Nat} {v : Value} {A : Option Addr} {l u : List Ch} {ys : List Value}
/-- Changes appended onto a row of one's own, all lines in blocks that S names. -/
theorem run_ownS {ty : TypeId} (h : OwnS W S base v l) (hu : PCells W S u ys) (hyl : ys.length = u.length * 6) (hsrc : ∃ a, A = some a ∧ ∀ (j : Nat) x, ys[j]? = some x → W.cell? (a.add j) = some x)
    (hS : ∀ b, S b → some b ≠ v.ownBlock) (hm : u.length = m) (h0 : 0 < m) (hn : l.length + m ≤ 100000) (hbase : base ≤ W.heap.size) :
    ∃ v' W', (Builtin.append_ #[26, 26] ty #[v, .slice A m c]).run Tryz.prog W = .ok v' W' ∧ OwnS W' S base v' (l ++ u) ∧ W.grownBy W' v.ownBlock ∧ (v'.ownBlock = v.ownBlock ∨ v'.ownBlock = some W.heap.size) := by
  obtain ⟨i0, hi0, hz0, hz1, hz2⟩ := info_parts info_prim
  obtain ⟨xs, hrow, hF⟩ := h
  have h1 := one6 hu hyl
  obtain ⟨a, rfl, hcell⟩ := hsrc
  obtain ⟨g, cap, W', hr, r1, r2, r3, r4⟩ := run_append_lies (P := Tryz.prog) (w := W) 26 ty base 42 i0 _ 6 96 Tryz.underlying26 hi0 hz0 hz1 hz2 rfl (by decide) v l.length xs hrow a m c ys (by rw [hyl, hm]) hcell h1 (by omega) (by unfold maxLen; omega) (by omega) hbase W.heap.size rfl
  refine ⟨_, W', hr, ⟨xs ++ ys, by rw [List.length_append, hm]; exact r1, (hF.append hrow.1 hu).to (fun b hb hl => r2.block b hl (hS b hb))⟩, r2, ?_⟩
  rcases r3 with r3 | r3
  · exact .inl r3.symm
  · exact .inr (by rw [r3]; rfl)
theorem step_ownS {ops : Array Oper} {o : Oper} {a : Act} {K : Act → World → Prop} {Q : Exit → Act → World → Prop} {E : Prop} (hgd : o.guard = none) (s x : Operand)
    (ho : o.op = .call { callee := .builtin .append, args := #[s, x], argTypes := #[26, 26] }) (hs : a.eval s = v) (hx : a.eval x = .slice A m c)
    (h : OwnS W S base v l) (hu : PCells W S u ys) (hyl : ys.length = u.length * 6) (hsrc : ∃ a, A = some a ∧ ∀ (j : Nat) x, ys[j]? = some x → W.cell? (a.add j) = some x)
    (hS : ∀ b, S b → some b ≠ v.ownBlock) (hm : u.length = m) (h0 : 0 < m) (hn : l.length + m ≤ 100000) (hbase : base ≤ W.heap.size)
    (hK : ∀ v' W', OwnS W' S base v' (l ++ u) → W.grownBy W' v.ownBlock → (v'.ownBlock = v.ownBlock ∨ v'.ownBlock = some W.heap.size) → K (a.put o.dst v') W') : if Region.wanted o (yielded ops a.tmps) = true then Oper.wp Tryz.prog o a W K Q else E := by
  have hw : Region.wanted o (yielded ops a.tmps) = true := by simp [Region.wanted, hgd]
  rw [if_pos hw]
  obtain ⟨v', W', hrun, h2, h3, h4⟩ := run_ownS (ty := o.type) (c := c) h hu hyl hsrc hS hm h0 hn hbase
  unfold Oper.wp execOp
  simp only [ho, resolve, invoke, builtin, Sem.run_bind, Sem.run_pure, Result.andThen_ok, List.map_toArray, List.map_cons, List.map_nil, hs, hx, hrun]
  exact hK v' W' h2 h3 h4
end

theorem EL.rd {X : World} {S : Nat → Prop} {n i : Nat} {A : Option Addr} {L : List Ch} {vals : Array Value} (h : EL n A i vals X) (hr : RdP X S A L) (hL : L.length = n) :
    ∃ p B r s B' r' s', L[i]? = some p ∧ vals = #[.int .i64 (i : Int), .agg (cellsV p B r s B' r' s')] ∧ PG X S B r s B' r' s' p := by
  obtain ⟨hi, a, v0, v1, v2, v3, v4, v5, rfl, rfl, c0, c1, c2, c3, c4, c5⟩ := h
  obtain ⟨a', p, B, r, s, B', r', s', e, _, hp, g0, g1, g2, g3, g4, g5, hpg⟩ := hr.elem (k := i) (by omega)
  injection e with e
  subst e
  have e0 := Option.some.inj (c0.symm.trans g0)
  have e1 := Option.some.inj (c1.symm.trans g1)
  have e2 := Option.some.inj (c2.symm.trans g2)
  have e3 := Option.some.inj (c3.symm.trans g3)
  have e4 := Option.some.inj (c4.symm.trans g4)
  have e5 := Option.some.inj (c5.symm.trans g5)
  subst e0 e1 e2 e3 e4 e5
  exact ⟨p, B, r, s, B', r', s', hp, rfl, hpg⟩

/-- Where the lines of what is turned do not lie: in what was there ahead, and in the row. -/
def TR (z : Nat) (v : Value) : Nat → Prop := fun b => b ≤ z ∨ some b = v.ownBlock
/-- Between two rounds. -/
def TInv (w : World) (l : List Ch) (n : Nat) (pre : List Nat) (W : World) : Prop :=
  (∃ v, Boxed W w.heap.size 26 v ∧ OwnS W (But W (TR (w.heap.size + 1) v)) (w.heap.size + 2) v (turnF (l.drop (n - pre.length)))) ∧ Below w.heap.size w W ∧ w.heap.size + 2 ≤ W.heap.size
theorem tInv_ab {w : World} {l : List Ch} {n B : Nat} (hB : w.heap.size ≤ B) : Ab Plain B (TInv w l n) := fun s W W' row hs hg hr => by
  obtain ⟨⟨v, h1, h2⟩, h3, h4⟩ := hs
  exact ⟨⟨v, ab_boxed (Free := Plain) (B := B) (fun _ : Unit => _) (fun _ => plain_cells _ _ _) () W W' row h1 hg hr, ab_ownS (β := Unit) (B := B) (fun _ => _) () W W' row h2 hg hr⟩, h3.grown hg h3.size (fun j e => by have := (hr j e).1; omega), Nat.le_trans h4 hg.size⟩

/-- Behind a round: the turned change stands at the end of the row. -/
theorem turn_next {w X w3 w4 : World} {l : List Ch} {n i : Nat} {A : Option Addr} {v v' : Value} {pre : List Nat} {p : Ch} (hn : l.length = n) (hi : pre.length + i + 1 = n) (hp : l[i]? = some p) (hR : RdP w (· < w.heap.size) A l) (hbw : Below w.heap.size w X) (hsz : w.heap.size + 2 ≤ X.heap.size)
    (hv : Boxed X w.heap.size 26 v) (hrow : OwnS X (But X (TR (w.heap.size + 1) v)) (w.heap.size + 2) v (turnF (l.drop (i + 1)))) (hb3 : Below X.heap.size X w3) (ho : OwnS w4 (But w3 (TR (w.heap.size + 1) v)) (w.heap.size + 2) v' (turnF (l.drop (i + 1)) ++ [turnP p])) (hg : w3.grownBy w4 v.ownBlock) (hv' : v'.ownBlock = v.ownBlock ∨ v'.ownBlock = some w3.heap.size) :
    (Boxed w4 w.heap.size 26 v ∧ Boxed (w4.setCell ⟨w.heap.size, 0, none⟩ v') w.heap.size 26 v') ∧
    (∀ B, KeepsFrom B X (w4.setCell ⟨w.heap.size, 0, none⟩ v')) ∧ KpL (w.heap.size + 1) A n X (w4.setCell ⟨w.heap.size, 0, none⟩ v') ∧ TInv w l n (pre ++ [i]) (w4.setCell ⟨w.heap.size, 0, none⟩ v') ∧
    (∀ b t cs, w.heap.size < b → t ≠ 42 ∨ some b ≠ v.ownBlock → Blk w3 b t cs → Blk w4 b t cs ∧ Blk (w4.setCell ⟨w.heap.size, 0, none⟩ v') b t cs) := by
  have hge := ownS_ge hrow
  have hlt := ownS_lt hrow
  have h3s := hb3.size
  have h4s := hg.size
  have hne : ∀ b, b < w.heap.size + 2 → some b ≠ v.ownBlock := fun b hb e => by have := hge b e.symm; omega
  have hne' : ∀ b, b < w.heap.size + 2 → some b ≠ v'.ownBlock := fun b hb e => by have := ownS_ge ho b e.symm; omega
  have hv4 : Boxed w4 w.heap.size 26 v := (show Boxed w3 w.heap.size 26 v from (hb3.block _ hv.lt).trans hv).kept hg (hne _ (by omega))
  have hbw9 : Below w.heap.size w (w4.setCell ⟨w.heap.size, 0, none⟩ v') := by
    have h1 := hbw.trans (hb3.mono hbw.size)
    have h2 := h1.grown hg h1.size (fun j e => by have := hge j e; omega)
    exact h2.setCell (p := ⟨w.heap.size, 0, none⟩) (Nat.le_refl _) _
  have hs9 : w4.heap.size = (w4.setCell ⟨w.heap.size, 0, none⟩ v').heap.size := by simp
  refine ⟨⟨hv4, hv4.set v'⟩, fun B => ?_, ⟨fun u hu => ?_, fun _ => cells6_rd (hR.below hbw9) hn⟩, ⟨⟨v', hv4.set v', ?_⟩, hbw9, by omega⟩, fun b t cs hb hd h => ?_⟩
  · refine ((keepsFrom_below B hb3).trans ((KeepsOthers.of_grownBy hg fun j o e ho => ?_).from B)).trans ((KeepsOthers.setCell _ _ _).from B)
    obtain ⟨xs, hr, _⟩ := hrow.below hb3
    rcases hr.2 with ⟨rfl, _⟩ | ⟨g, cap, cur, rfl, _, hg', _⟩
    · cases e
    · injection e with e
      subst e
      rw [hg'] at ho
      cases ho
      rfl
  · have h1 : Boxed w3 (w.heap.size + 1) 26 u := (hb3.block _ hu.lt).trans hu
    exact ((show Blk w3 (w.heap.size + 1) 26 #[u] from h1).gr hg (hne _ (by omega))).set_ne (by omega) 0 v'
  · have e : n - (pre ++ [i]).length = i := by rw [List.length_append, List.length_singleton]; omega
    rw [e, turnF_drop hp]
    refine (ho.set (b := w.heap.size) (hne' _ (by omega)) (fun h => h.2 (.inl (by omega))) 0 v').mono fun b hb => ⟨by have := hb.1; omega, fun h => ?_⟩
    rcases h with h | h
    · exact hb.2 (.inl h)
    · rcases hv' with hv' | hv'
      · exact hb.2 (.inr (h.trans hv'))
      · rw [hv'] at h
        injection h with h
        have := hb.1
        omega
  · have h4 : Blk w4 b t cs := h.gr hg (fun e => by
      rcases hd with hd | hd
      · obtain ⟨xs, hr, _⟩ := hrow.below hb3
        rcases hr.2 with ⟨rfl, _⟩ | ⟨g, cap, cur, rfl, _, hg', _⟩
        · cases e
        · injection e with e
          subst e
          rw [show w3.heap[b]? = _ from h] at hg'
          cases hg'
          exact hd rfl
      · exact hd e)
    exact ⟨h4, h4.set_ne (by omega) 0 v'⟩

set_option maxRecDepth 100000 in
set_option maxHeartbeats 4000000 in
theorem TurnLH (A : Option Addr) (n c : Nat) (l : List Ch) (w : World) (hn : l.length = n) (hle : n ≤ 20000) (hl : Lt l) (hR : RdP w (· < w.heap.size) A l) :
    Calls Tryz.prog 10 #[.slice A n c] w (LPHi w (turnF l)) := by
  have HR := Lib.hid hR; have HN := Lib.hid hn; have HL := Lib.hid hl
  clear hR hn hl
  refine (callsIn_wide (n := 4)).1 ?_
  refine callsIn_of_wp_marks Tryz.func10 rfl trivial ?_ rfl
  simp only [Tryz.ntmps10, List.size_toArray, List.length_cons, List.length_nil, Nat.reduceAdd, Nat.reduceSub, Array.replicate_succ, Array.replicate_zero, List.push_toArray, List.append_toArray, List.nil_append, List.cons_append]
  gi_wp2_with fail
  refine ⟨trivial, ?_⟩
  refine (backL_in 3 A n c _).mono ?_
  rintro e w' ⟨rfl, rfl⟩
  gi_wp2
  have hb0 := (Boxed.new w 26 (.slice none 0 0)).alloc (.cells #[.slice A n c] 26)
  have hbs := Boxed.new (w.alloc (.cells #[.slice none 0 0] 26)) 26 (.slice A n c)
  have hbw : Below w.heap.size w ((w.alloc (.cells #[.slice none 0 0] 26)).alloc (.cells #[.slice A n c] 26)) := two_box _ _ _
  have hsz : ((w.alloc (.cells #[.slice none 0 0] 26)).alloc (.cells #[.slice A n c] 26)).heap.size = w.heap.size + 2 := by simp
  rw [World.size_alloc] at hbs
  generalize (w.alloc (.cells #[.slice none 0 0] 26)).alloc (.cells #[.slice A n c] 26) = w5 at hb0 hbs hbw hsz ⊢
  have hc6 := cells6_rd (HR.out.below hbw) HN.out
  have hst : TInv w l n [] w5 := ⟨⟨_, hb0, by rw [List.length_nil, Nat.sub_zero, List.drop_of_length_le (by rw [HN.out]; exact Nat.le_refl _)]; exact ⟨[], World.ownsRow_nil _ _ _ _, PCells.nil _ _ _⟩⟩, hbw, by omega⟩
  refine range_law (n := 4) (gf := 35) (lb := #[.pointer (some ⟨w.heap.size + 1, 0, none⟩)]) rfl (enters_of Tryz.func35 (by kernel_rfl) rfl) (Free := Plain) (fun _ h => h)
    (backL_gives 3 (w.heap.size + 1) c n A (by omega) w5 hbs hc6) kpL_t (kpL_b (by rw [hsz]; omega)) (fun x vals W h => by obtain ⟨_, _, _, _, _, _, _, _, _, rfl, _⟩ := h; rfl)
    (TInv w l n) (fun _ _ _ => False) (tInv_ab (by rw [hsz]; omega)) (fun _ => ab_pure _ _ _) hst
    (fun i a' X => ∃ b v0 v1 v2 v3 v4 v5, a' = { tmps := #[.slice A n c, undef, .slice none 0 0, .pointer (some ⟨w.heap.size, 0, none⟩), undef, .pointer (some ⟨b, 0, none⟩), .slice A n c, .func (.func 35) #[] #[.pointer (some ⟨w.heap.size + 1, 0, none⟩)], .int .i64 (i : Int), .agg #[v0, v1, v2, v3, v4, v5], undef, undef, undef, undef, undef, undef], defers := [] } ∧ EL n A i #[.int .i64 (i : Int), .agg #[v0, v1, v2, v3, v4, v5]] X ∧ Blk X b 42 #[v0, v1, v2, v3, v4, v5] ∧ w.heap.size < b ∧ ∃ v, Boxed X w.heap.size 26 v ∧ some b ≠ v.ownBlock)
    (fun i a' => ab_ex fun b => ab_ex fun v0 => ab_ex fun v1 => ab_ex fun v2 => ab_ex fun v3 => ab_ex fun v4 => ab_ex fun v5 => Ab.and (ab_pure _ _ _) (Ab.and ab_EL (Ab.and (ab_blk fun _ => _) (Ab.and (ab_pure _ _ _) (ab_ex fun v => Ab.and (ab_boxed (fun _ => v) (fun _ => plain_cells _ _ _)) (ab_pure _ _ _)))))) ?assign ?body ?done ?stop
  case assign =>
    rintro y pre i vals X K hi hEL hK
    obtain ⟨⟨v, hv, hrow⟩, hbX, hsX⟩ := id hi
    obtain ⟨p, B, r, s, B', r', s', hp, rfl, hpg⟩ := hEL.rd (HR.out.below hbX) HN.out
    clear hp hpg
    gi_wp2
    exact hK _ _ ((KeepsOthers.alloc X _).from _) (kpL_new (World.grownBy_alloc X _ none)) ((tInv_ab (Nat.le_refl _)).alloc _ hi) ⟨_, _, _, _, _, _, _, rfl, ab_EL.alloc (s := ()) (B := 0) _ hEL, Blk.new _ _ _, by omega, v, hv.alloc _, fun e => by have := ownS_lt hrow _ e.symm; omega⟩
  case body =>
    rintro y pre pst i a' X hfull hI ⟨b, v0, v1, v2, v3, v4, v5, rfl, hEL, hb, hbl, v', hv', hbo⟩
    have hi := dn_split hfull
    clear hfull
    obtain ⟨⟨v, hv, hrow⟩, hbX, hsX⟩ := hI
    rw [show n - pre.length = i + 1 by omega] at hrow
    obtain ⟨p, B, r, s, B', r', s', hp, hvv, hpg⟩ := hEL.rd (HR.out.below hbX) HN.out
    obtain ⟨rfl, rfl, rfl, rfl, rfl, rfl⟩ := vals_eq hvv
    have hvv' : v = v' := by have := hv.symm.trans hv'; injection this with this; injection this with this; simpa using this
    subst hvv'
    have HBL := Lib.hid (And.intro hbl hbo)
    have HLP := lt_len hpg (HL.out p (List.mem_of_getElem? hp))
    have PT : Hid (∀ W', Below X.heap.size X W' → Calls Tryz.prog 22 #[prV p.k p.nm p.to p.h.pos B r s B' r' s'] W' (PTEndH W' (turnP p))) := Lib.hid (fun W' hb => TurnPH B r s B' r' s' p W' HLP.1 HLP.2 (((hpg.mono (fun b hb => Nat.lt_of_lt_of_le hb hbX.size) : PG X (· < X.heap.size) B r s B' r' s' p).pv).mv hb))
    have HS : Hid (∀ Y u, Blk Y b 42 #[.int .i64 p.k, strV p.nm, strV p.to, .int .i64 p.h.pos, .slice B r s, .slice B' r' s'] → Boxed Y w.heap.size 26 u → Y.cell? ⟨b, 0, none⟩ = some (.int .i64 p.k) ∧ Y.cell? ⟨b, 1, none⟩ = some (strV p.nm) ∧ Y.cell? ⟨b, 2, none⟩ = some (strV p.to) ∧ Y.cell? ⟨b, 3, none⟩ = some (.int .i64 p.h.pos) ∧ Y.cell? ⟨b, 4, none⟩ = some (.slice B r s) ∧ Y.cell? ⟨b, 5, none⟩ = some (.slice B' r' s') ∧ (∃ u, Y.cell? ⟨w.heap.size, 0, none⟩ = some u)) := Lib.hid (fun Y u h h' => ⟨h.cell 0 rfl, h.cell 1 rfl, h.cell 2 rfl, h.cell 3 rfl, h.cell 4 rfl, h.cell 5 rfl, _, h'.cell⟩)
    have HV := Lib.hid hv; have HROW := Lib.hid hrow; have HBW := Lib.hid hbX; have HSZ := Lib.hid hsX; have HPL := Lib.hid hp; have HBB := Lib.hid hb
    have HLN : Hid ((turnF (l.drop (i + 1))).length ≤ 20000) := Lib.hid (by rw [turnF_len, List.length_drop, HN.out]; omega)
    have cz := hv.cell; have lz := hv.lt
    clear hrow hbX hsX hp hb hbl hbo hpg hvv hEL HLP hv hv'
    gi_wp2
    refine round_held (S := fun Y : World => Y.cell? ⟨b, 0, none⟩ = some (.int .i64 p.k) ∧ Y.cell? ⟨b, 1, none⟩ = some (strV p.nm) ∧ Y.cell? ⟨b, 2, none⟩ = some (strV p.to) ∧ Y.cell? ⟨b, 3, none⟩ = some (.int .i64 p.h.pos) ∧ Y.cell? ⟨b, 4, none⟩ = some (.slice B r s) ∧ Y.cell? ⟨b, 5, none⟩ = some (.slice B' r' s') ∧ (∃ u, Y.cell? ⟨w.heap.size, 0, none⟩ = some u)) (by kernel_rfl) (by kernel_rfl) ?hq ?hS (fun hS => ?_)
    case hq => rintro ⟨_, _, h⟩; exact h
    case hS => exact HS.out X _ HBB.out HV.out
    refine wpAnyH_take (i := 1) (v := ?_) rfl (by kernel_rfl) (by kernel_rfl) (by kernel_rfl) (fun _ _ _ h => h) (Or.inl ⟨by rfl, ?_⟩) hS ?_
    rotate_left
    · intro Y hY
      obtain ⟨s0, s1, s2, s3, s4, s5, s6⟩ := hY
      go_simp
      try with_reducible rfl
    simp only [Act.put, List.getElem_toArray, List.getElem_cons_succ, List.getElem_cons_zero, List.setIfInBounds_toArray, List.set_cons_succ, List.set_cons_zero]
    refine wpAnyH_ready (rs := [0, 2]) (by kernel_rfl) (by simp) ?_
    refine AllReadyH.cons rfl (fun K1 hK => ?_) (AllReadyH.cons rfl (fun K1 hK => ?_) AllReadyH.nil)
    · go_simp
      refine hK.out _ _ (HS.out X.drew _ HBB.out HV.out) (fun hS => ?_)
      clear hK K1
      refine wpAnyH_ready (rs := [2]) (by kernel_rfl) (by simp) ?_
      refine AllReadyH.cons rfl (fun K1 hK => ?_) AllReadyH.nil
      go_simp
      refine (PT.out X.drew (below_drewN (Below.refl _ _) 1)).mono ?_
      rintro e w2 ⟨E1, n1, c1, E2, n2, c2, rfl, pv, _, _, hh, hb2⟩
      have hb2' : Below X.heap.size X w2 := (below_drewN (Below.refl X.heap.size X) 1).trans hb2
      have HB2 := Lib.hid hb2'; have HPV := Lib.hid pv; have HH := Lib.hid (show Hi X.heap.size E1 ∧ Hi X.heap.size E2 from hh)
      have bz := (hb2'.block _ HV.out.lt).trans HV.out
      have BZ := Lib.hid (show Boxed w2 w.heap.size 26 v from bz)
      have BB := Lib.hid (HBB.out.below hb2' HBB.out.lt)
      have cz2 := BZ.out.cell
      have lz2 := BZ.out.lt
      clear hb2 hb2' pv hh bz
      refine hK.out _ _ (HS.out _ _ BB.out BZ.out) (fun hS => ?_)
      clear hK K1
      refine wpAnyH_ready (rs := [3]) (by kernel_rfl) (by simp) ?_
      refine AllReadyH.cons rfl (fun K1 hK => ?_) AllReadyH.nil
      go_simp
      refine hK.out _ _ (HS.out _ _ (BB.out.alloc (.cells #[.int .i64 (turnP p).k, strV (turnP p).nm, strV (turnP p).to, .int .i64 (turnP p).h.pos, .slice E1 n1 c1, .slice E2 n2 c2] 42)) (BZ.out.alloc (.cells #[.int .i64 (turnP p).k, strV (turnP p).nm, strV (turnP p).to, .int .i64 (turnP p).h.pos, .slice E1 n1 c1, .slice E2 n2 c2] 42))) (fun hS => ?_)
      clear hK K1
      refine wpAnyH_ready (rs := [4]) (by kernel_rfl) (by simp) ?_
      refine AllReadyH.cons rfl (fun K1 hK => ?_) AllReadyH.nil
      have hb3 : Below X.heap.size X (w2.alloc (.cells #[.int .i64 (turnP p).k, strV (turnP p).nm, strV (turnP p).to, .int .i64 (turnP p).h.pos, .slice E1 n1 c1, .slice E2 n2 c2] 42)) := HB2.out.alloc HB2.out.size _
      have ho3 := (HROW.out.below hb3).mono (but_up hb3.size)
      have hpc : PCells (w2.alloc (.cells #[.int .i64 (turnP p).k, strV (turnP p).nm, strV (turnP p).to, .int .i64 (turnP p).h.pos, .slice E1 n1 c1, .slice E2 n2 c2] 42)) (But (w2.alloc (.cells #[.int .i64 (turnP p).k, strV (turnP p).nm, strV (turnP p).to, .int .i64 (turnP p).h.pos, .slice E1 n1 c1, .slice E2 n2 c2] 42)) (TR (w.heap.size + 1) v)) [turnP p] _ := PCells.one (((pg_hi HPV.out HH.out.1 HH.out.2).to_ (fun b hb hl => Below.heap_alloc _ _ _ hl)).mono fun b hb => ⟨by simp; omega, fun e => by
        have h1 : X.heap.size ≤ b := hb.1
        rcases e with e | e
        · have := HSZ.out; omega
        · have := ownS_lt HROW.out b e.symm; omega⟩)
      refine step_ownS rfl (.tmp 10) (.tmp 13) rfl (A := some ⟨w2.heap.size, 0, none⟩) (m := 1) (c := 1) rfl rfl ho3 hpc rfl ⟨_, rfl, one_srcP (Blk.new w2 _ _)⟩ (fun b hb e => hb.2 (.inr e)) rfl (by decide) (by have := HLN.out; omega) (by have := hb3.size; have := HSZ.out; omega) ?_
      intro v' w4 ho hg hv'
      obtain ⟨Av, nv, cv, rfl⟩ : ∃ A n c, v' = .slice A n c := (ownS_slice ho).elim fun A h => h.elim fun c h => ⟨A, _, c, h.1⟩
      obtain ⟨⟨t1, t2⟩, t3, t4, t5, t6⟩ := turn_next HN.out hi HPL.out HR.out HBW.out HSZ.out HV.out HROW.out hb3 ho hg hv'
      obtain ⟨u1, u2⟩ := t6 b 42 _ HBL.out.1 (.inr HBL.out.2) (BB.out.alloc _)
      have cz4 := t1.cell; have fz4 := t1.frozen
      have T := Lib.hid (And.intro t2 (And.intro t3 (And.intro t4 (And.intro t5 u2))))
      have HU := Lib.hid (HS.out _ _ u1 t1)
      clear hb3 ho3 hpc ho hg hv' t1 t2 t3 t4 t5 t6 u1 u2
      refine hK.out _ _ HU.out (fun hS => ?_)
      clear hK K1
      simp only [Act.put, List.getElem_toArray, List.getElem_cons_succ, List.getElem_cons_zero, List.setIfInBounds_toArray, List.set_cons_succ, List.set_cons_zero]
      refine wpAnyH_ready (rs := [5]) (by kernel_rfl) (by simp) ?_
      refine AllReadyH.cons rfl (fun K1 hK => ?_) AllReadyH.nil
      go_simp
      refine hK.out _ _ (HS.out _ _ T.out.2.2.2.2 T.out.1) (fun _ => wpAnyH_done (by kernel_rfl) ?_ _)
      exact ⟨T.out.2.1 _, T.out.2.2.1, T.out.2.2.2.1⟩
    · go_simp
      refine (PT.out X.drew (below_drewN (Below.refl _ _) 1)).mono ?_
      rintro e w2 ⟨E1, n1, c1, E2, n2, c2, rfl, pv, _, _, hh, hb2⟩
      have hb2' : Below X.heap.size X w2 := (below_drewN (Below.refl X.heap.size X) 1).trans hb2
      have HB2 := Lib.hid hb2'; have HPV := Lib.hid pv; have HH := Lib.hid (show Hi X.heap.size E1 ∧ Hi X.heap.size E2 from hh)
      have bz := (hb2'.block _ HV.out.lt).trans HV.out
      have BZ := Lib.hid (show Boxed w2 w.heap.size 26 v from bz)
      have BB := Lib.hid (HBB.out.below hb2' HBB.out.lt)
      have cz2 := BZ.out.cell
      have lz2 := BZ.out.lt
      clear hb2 hb2' pv hh bz
      refine hK.out _ _ (HS.out _ _ BB.out BZ.out) (fun hS => ?_)
      clear hK K1
      refine wpAnyH_ready (rs := [0, 3]) (by kernel_rfl) (by simp) ?_
      refine AllReadyH.cons rfl (fun K1 hK => ?_) (AllReadyH.cons rfl (fun K1 hK => ?_) AllReadyH.nil)
      · go_simp
        refine hK.out _ _ (HS.out _ _ BB.out BZ.out) (fun hS => ?_)
        clear hK K1
        refine wpAnyH_ready (rs := [3]) (by kernel_rfl) (by simp) ?_
        refine AllReadyH.cons rfl (fun K1 hK => ?_) AllReadyH.nil
        go_simp
        refine hK.out _ _ (HS.out _ _ (BB.out.alloc (.cells #[.int .i64 (turnP p).k, strV (turnP p).nm, strV (turnP p).to, .int .i64 (turnP p).h.pos, .slice E1 n1 c1, .slice E2 n2 c2] 42)) (BZ.out.alloc (.cells #[.int .i64 (turnP p).k, strV (turnP p).nm, strV (turnP p).to, .int .i64 (turnP p).h.pos, .slice E1 n1 c1, .slice E2 n2 c2] 42))) (fun hS => ?_)
        clear hK K1
        refine wpAnyH_ready (rs := [4]) (by kernel_rfl) (by simp) ?_
        refine AllReadyH.cons rfl (fun K1 hK => ?_) AllReadyH.nil
        have hb3 : Below X.heap.size X (w2.alloc (.cells #[.int .i64 (turnP p).k, strV (turnP p).nm, strV (turnP p).to, .int .i64 (turnP p).h.pos, .slice E1 n1 c1, .slice E2 n2 c2] 42)) := HB2.out.alloc HB2.out.size _
        have ho3 := (HROW.out.below hb3).mono (but_up hb3.size)
        have hpc : PCells (w2.alloc (.cells #[.int .i64 (turnP p).k, strV (turnP p).nm, strV (turnP p).to, .int .i64 (turnP p).h.pos, .slice E1 n1 c1, .slice E2 n2 c2] 42)) (But (w2.alloc (.cells #[.int .i64 (turnP p).k, strV (turnP p).nm, strV (turnP p).to, .int .i64 (turnP p).h.pos, .slice E1 n1 c1, .slice E2 n2 c2] 42)) (TR (w.heap.size + 1) v)) [turnP p] _ := PCells.one (((pg_hi HPV.out HH.out.1 HH.out.2).to_ (fun b hb hl => Below.heap_alloc _ _ _ hl)).mono fun b hb => ⟨by simp; omega, fun e => by
          have h1 : X.heap.size ≤ b := hb.1
          rcases e with e | e
          · have := HSZ.out; omega
          · have := ownS_lt HROW.out b e.symm; omega⟩)
        refine step_ownS rfl (.tmp 10) (.tmp 13) rfl (A := some ⟨w2.heap.size, 0, none⟩) (m := 1) (c := 1) rfl rfl ho3 hpc rfl ⟨_, rfl, one_srcP (Blk.new w2 _ _)⟩ (fun b hb e => hb.2 (.inr e)) rfl (by decide) (by have := HLN.out; omega) (by have := hb3.size; have := HSZ.out; omega) ?_
        intro v' w4 ho hg hv'
        obtain ⟨Av, nv, cv, rfl⟩ : ∃ A n c, v' = .slice A n c := (ownS_slice ho).elim fun A h => h.elim fun c h => ⟨A, _, c, h.1⟩
        obtain ⟨⟨t1, t2⟩, t3, t4, t5, t6⟩ := turn_next HN.out hi HPL.out HR.out HBW.out HSZ.out HV.out HROW.out hb3 ho hg hv'
        obtain ⟨u1, u2⟩ := t6 b 42 _ HBL.out.1 (.inr HBL.out.2) (BB.out.alloc _)
        have cz4 := t1.cell; have fz4 := t1.frozen
        have T := Lib.hid (And.intro t2 (And.intro t3 (And.intro t4 (And.intro t5 u2))))
        have HU := Lib.hid (HS.out _ _ u1 t1)
        clear hb3 ho3 hpc ho hg hv' t1 t2 t3 t4 t5 t6 u1 u2
        refine hK.out _ _ HU.out (fun hS => ?_)
        clear hK K1
        simp only [Act.put, List.getElem_toArray, List.getElem_cons_succ, List.getElem_cons_zero, List.setIfInBounds_toArray, List.set_cons_succ, List.set_cons_zero]
        refine wpAnyH_ready (rs := [5]) (by kernel_rfl) (by simp) ?_
        refine AllReadyH.cons rfl (fun K1 hK => ?_) AllReadyH.nil
        go_simp
        refine hK.out _ _ (HS.out _ _ T.out.2.2.2.2 T.out.1) (fun _ => wpAnyH_done (by kernel_rfl) ?_ _)
        exact ⟨T.out.2.1 _, T.out.2.2.1, T.out.2.2.2.1⟩
      · go_simp
        refine hK.out _ _ (HS.out _ _ (BB.out.alloc (.cells #[.int .i64 (turnP p).k, strV (turnP p).nm, strV (turnP p).to, .int .i64 (turnP p).h.pos, .slice E1 n1 c1, .slice E2 n2 c2] 42)) (BZ.out.alloc (.cells #[.int .i64 (turnP p).k, strV (turnP p).nm, strV (turnP p).to, .int .i64 (turnP p).h.pos, .slice E1 n1 c1, .slice E2 n2 c2] 42))) (fun hS => ?_)
        clear hK K1
        refine wpAnyH_ready (rs := [0]) (by kernel_rfl) (by simp) ?_
        refine AllReadyH.cons rfl (fun K1 hK => ?_) AllReadyH.nil
        go_simp
        refine hK.out _ _ (HS.out _ _ (BB.out.alloc (.cells #[.int .i64 (turnP p).k, strV (turnP p).nm, strV (turnP p).to, .int .i64 (turnP p).h.pos, .slice E1 n1 c1, .slice E2 n2 c2] 42)) (BZ.out.alloc (.cells #[.int .i64 (turnP p).k, strV (turnP p).nm, strV (turnP p).to, .int .i64 (turnP p).h.pos, .slice E1 n1 c1, .slice E2 n2 c2] 42))) (fun hS => ?_)
        clear hK K1
        refine wpAnyH_ready (rs := [4]) (by kernel_rfl) (by simp) ?_
        refine AllReadyH.cons rfl (fun K1 hK => ?_) AllReadyH.nil
        have hb3 : Below X.heap.size X (w2.alloc (.cells #[.int .i64 (turnP p).k, strV (turnP p).nm, strV (turnP p).to, .int .i64 (turnP p).h.pos, .slice E1 n1 c1, .slice E2 n2 c2] 42)) := HB2.out.alloc HB2.out.size _
        have ho3 := (HROW.out.below hb3).mono (but_up hb3.size)
        have hpc : PCells (w2.alloc (.cells #[.int .i64 (turnP p).k, strV (turnP p).nm, strV (turnP p).to, .int .i64 (turnP p).h.pos, .slice E1 n1 c1, .slice E2 n2 c2] 42)) (But (w2.alloc (.cells #[.int .i64 (turnP p).k, strV (turnP p).nm, strV (turnP p).to, .int .i64 (turnP p).h.pos, .slice E1 n1 c1, .slice E2 n2 c2] 42)) (TR (w.heap.size + 1) v)) [turnP p] _ := PCells.one (((pg_hi HPV.out HH.out.1 HH.out.2).to_ (fun b hb hl => Below.heap_alloc _ _ _ hl)).mono fun b hb => ⟨by simp; omega, fun e => by
          have h1 : X.heap.size ≤ b := hb.1
          rcases e with e | e
          · have := HSZ.out; omega
          · have := ownS_lt HROW.out b e.symm; omega⟩)
        refine step_ownS rfl (.tmp 10) (.tmp 13) rfl (A := some ⟨w2.heap.size, 0, none⟩) (m := 1) (c := 1) rfl rfl ho3 hpc rfl ⟨_, rfl, one_srcP (Blk.new w2 _ _)⟩ (fun b hb e => hb.2 (.inr e)) rfl (by decide) (by have := HLN.out; omega) (by have := hb3.size; have := HSZ.out; omega) ?_
        intro v' w4 ho hg hv'
        obtain ⟨Av, nv, cv, rfl⟩ : ∃ A n c, v' = .slice A n c := (ownS_slice ho).elim fun A h => h.elim fun c h => ⟨A, _, c, h.1⟩
        obtain ⟨⟨t1, t2⟩, t3, t4, t5, t6⟩ := turn_next HN.out hi HPL.out HR.out HBW.out HSZ.out HV.out HROW.out hb3 ho hg hv'
        obtain ⟨u1, u2⟩ := t6 b 42 _ HBL.out.1 (.inr HBL.out.2) (BB.out.alloc _)
        have cz4 := t1.cell; have fz4 := t1.frozen
        have T := Lib.hid (And.intro t2 (And.intro t3 (And.intro t4 (And.intro t5 u2))))
        have HU := Lib.hid (HS.out _ _ u1 t1)
        clear hb3 ho3 hpc ho hg hv' t1 t2 t3 t4 t5 t6 u1 u2
        refine hK.out _ _ HU.out (fun hS => ?_)
        clear hK K1
        simp only [Act.put, List.getElem_toArray, List.getElem_cons_succ, List.getElem_cons_zero, List.setIfInBounds_toArray, List.set_cons_succ, List.set_cons_zero]
        refine wpAnyH_ready (rs := [5]) (by kernel_rfl) (by simp) ?_
        refine AllReadyH.cons rfl (fun K1 hK => ?_) AllReadyH.nil
        go_simp
        refine hK.out _ _ (HS.out _ _ T.out.2.2.2.2 T.out.1) (fun _ => wpAnyH_done (by kernel_rfl) ?_ _)
        exact ⟨T.out.2.1 _, T.out.2.2.1, T.out.2.2.2.1⟩
  case done =>
    rintro E W hE ⟨⟨v, hv, hrow⟩, hbX, hsX⟩ hK
    rw [dn_length, Nat.sub_self, List.drop_zero] at hrow
    have cz := hv.cell
    have HROW := Lib.hid hrow; have HBW := Lib.hid hbX
    obtain ⟨Av, cv, rfl, hcv⟩ := ownS_slice hrow
    clear hrow hbX
    gi_wp2
    refine ⟨by simp, .inl ⟨_, _, rfl, run_takeDeferred hK, ?_⟩⟩
    have hp := grownBy_putObj' W E (.deferred none)
    have hr : ∀ r, some E = some r → ∃ o : Obj, W.heap[r]? = some o ∧ o.isCells = false := fun r e => by injection e with e; subst e; exact ⟨_, hK, rfl⟩
    refine ⟨_, results_tmp rfl _ _ _, Av, cv, rfl, hcv, ?_, HBW.out.grown hp HBW.out.size (fun j e => by injection e with e; omega)⟩
    exact rdP_of_own_hi (HROW.out.plain hp hr) (fun b hb => ⟨Classical.byContradiction fun h => hb.2 (.inl (by omega)), by have := hb.1; simp; omega⟩) (Nat.le_add_right _ _) rfl
  case stop =>
    rintro E c pre post W _ _ h _
    exact h.elim

theorem TurnL (A : Option Addr) (n c : Nat) (l : List Ch) (w : World) (hn : l.length = n) (hle : n ≤ 20000) (hl : Lt l) (hR : RdP w (· < w.heap.size) A l) :
    Calls Tryz.prog 10 #[.slice A n c] w (LPEnd w (turnF l)) := (TurnLH A n c l w hn hle hl hR).mono fun e w' h => h.end_

end Fl
end Go.Proofs.YtjhjmfodpnipiaaGreat
