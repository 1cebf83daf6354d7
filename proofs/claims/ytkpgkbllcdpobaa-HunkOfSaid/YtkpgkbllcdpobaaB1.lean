/-
  The statement HunkOf: the hunks from any list to any other one are what the document says.
-/
import Derived.Deep.LoopGhost
import Derived.WalkMore
import Derived.StillTailTactics
import Derived.Laws.StructEq
import Derived.Laws.Cover2
import Derived.Laws.Tables
import Derived.Deep.QuietTactic
import Derived.BigQuiet
import Derived.Deep.RegionHeld3
import Derived.Test.YtkpgkbllcdpobaaB0
namespace Go.Proofs.Ytkpgkbllcdpobaa
open Go.RowKit Go.Shelf
set_option linter.unusedVariables false
namespace Lc
open Tx Rg
attribute [local go_sem] Oper.semAt_some

theorem info_strs : (Try.prog.info? 22).map (fun i => (i.zero, i.size, i.bytes)) = some (some (.slice none 0 0), 1, 24) := by kernel_rfl

theorem chV_form (A : Option Addr) (sz m : Nat) : ∀ (f i : Nat), m - i ≤ f → ∀ u ∈ chV A sz m i, ∃ A' n c, u = .slice A' n c
  | f, i, hf, u, hu => by
    unfold chV at hu
    split at hu
    · rename_i h
      cases f with
      | zero => omega
      | succ f =>
        rcases List.mem_cons.1 hu with rfl | hu
        · exact ⟨_, _, _, rfl⟩
        · exact chV_form A sz m f (i + sz) (by omega) u hu
    · cases hu

/-- How a call ends that answers slices in a row of its own. -/
def SlEnd (w : World) (vs : List Value) (e : Ending) (w' : World) : Prop :=
  ∃ v, e = .returned v ∧ w'.ownsRow w.heap.size 22 1 v vs.length vs ∧ Below w.heap.size w w'

def AppInv (w : World) (pre : List Value) (W : World) : Prop :=
  (∃ v, Boxed W w.heap.size 76 v ∧ W.ownsRow w.heap.size 22 1 v pre.length pre) ∧ Below w.heap.size w W
theorem appInv_ab (w : World) {B : Nat} (hB : w.heap.size ≤ B) : Ab Plain B (AppInv w) :=
  Ab.and (ab_ex fun v => Ab.and (ab_boxed (fun _ => v) (fun _ => plain_cells _ _ _)) (ab_row _ _ (fun _ => plain_cells _ _ _))) (ab_below (Nat.le_refl _) hB)

set_option maxRecDepth 100000 in
set_option maxHeartbeats 2000000 in
theorem AppendSeq (A : Option Addr) (Bs Bn n₁ cap m sz : Nat) (ls : List (List UInt8)) (w : World) (hm : ls.length = m) (hmc : m ≤ cap) (hle : m ≤ 1000) (hz : 1 ≤ sz) (hz' : sz ≤ 1000) (hBs : Boxed w Bs 22 (.slice A m cap)) (hBn : Boxed w Bn 3 (.int .i64 (sz : Int))) (hn : n₁ ≤ w.heap.size) (hR : RdS w n₁ A ls) :
    Calls Try.prog 60 #[.slice none 0 0, .func (.func 61) #[] #[.pointer (some ⟨Bs, 0, none⟩), .pointer (some ⟨Bn, 0, none⟩)]] w (SlEnd w (chV A sz m 0)) := by
  obtain ⟨i0, hi, hz0, hz1, hz2⟩ := info_parts info_strs
  have HM := Lib.hid hm; clear hm
  refine (callsIn_wide (n := 3)).1 ?_
  refine callsIn_of_wp_marks Try.func60 rfl trivial ?_ rfl
  simp only [Try.ntmps60, List.size_toArray, List.length_cons, List.length_nil, Nat.reduceAdd, Nat.reduceSub, Array.replicate_succ, Array.replicate_zero, List.push_toArray, List.append_toArray, List.nil_append, List.cons_append]
  gi_wp2
  have hB0 := Boxed.new w 76 (.slice none 0 0)
  have hw1 : Below w.heap.size w (w.alloc (.cells #[.slice none 0 0] 76)) := (Below.refl _ _).alloc (Nat.le_refl _) _
  refine range_law' (n := 3) (gf := 61) (lb := #[.pointer (some ⟨Bs, 0, none⟩), .pointer (some ⟨Bn, 0, none⟩)]) rfl (enters_of Try.func61 (by kernel_rfl) rfl) (Free := Plain) (fun _ h => h)
    (chunk_gives 2 Bs Bn n₁ cap m sz A ls HM.out hmc hle hz hz' _ (hBs.alloc _) (hBn.alloc _) (by simp; omega) (hR.below (hw1.mono hn))) kpC_t (kpC_b (by simp; omega) (by have := hBs.lt; simp; omega) (by have := hBn.lt; simp; omega)) kpC_r (fun _ => rfl)
    (AppInv w) (fun _ _ _ => False) (appInv_ab w (by simp)) (fun _ => ab_pure _ _ _) ⟨⟨_, hB0, World.ownsRow_nil _ _ _ _⟩, hw1⟩ ?a1 ?assign ?body ?done ?stop
  case assign =>
    intro l x W K hK
    gi_wp2
    exact hK
  case body =>
    rintro l pre post x W hfull ⟨⟨v, hv, hrow⟩, hB⟩
    obtain ⟨A', n', c', rfl⟩ := chV_form A sz m m 0 (by omega) x (by rw [hfull]; simp)
    have hlen := chV_len A sz m m 0 (by omega)
    rw [hfull] at hlen
    simp at hlen
    have hc := hv.cell
    have hw := hB.size
    have hsB := hBs.lt
    have hnB := hBn.lt
    clear hfull
    gi_wp2_with (gi_at_builtin; refine wpListIn_append_own _ rfl _ _ 76 rfl w.heap.size 22 i0 (.slice none 0 0) 1 24 Try.underlying76 hi hz0 hz1 hz2 rfl (by decide) _ _ _ rfl (hrow.alloc _) ⟨W.heap.size, 0, none⟩ 1 1 [.slice A' n' c'] rfl rfl (cell_one_new _ _ _) (by simp [Value.oneCell']) (by unfold maxLen; omega) (by omega) (by simp; omega) ?_; intro v' w1 hown' hgrow _; obtain ⟨g', cap', rfl⟩ := ownsRow_succ hown'; obtain ⟨hv1, hv2, hr2, hk2, hb2⟩ := hv.appended (by decide) hrow hB.size (by omega) hown' hgrow; have hc1 := hv1.cell; have hf1 := hv1.frozen)
    refine ⟨hk2.from _, ⟨hb2.mono hn, fun u hu => (hb2.block Bs hsB).trans hu, fun u hu => (hb2.block Bn hnB).trans hu⟩, ⟨_, hv2, ?_⟩, hB.trans hb2⟩
    rw [List.length_append]
    exact hr2
  case done =>
    rintro D W hD ⟨⟨v, hv, hrow⟩, hB⟩ hK
    have hc := hv.cell
    obtain ⟨Av, cv, rfl, hcv, hrd⟩ := rd_of_own hrow
    gi_wp2
    refine ⟨by simp, .inl ⟨_, _, rfl, run_takeDeferred hK, ?_⟩⟩
    refine ⟨_, results_tmp rfl _ _ _, _, rfl, ownsRow_putObj hrow _ hK rfl, ?_⟩
    exact hB.grown (grownBy_putObj' _ D _) hB.size (fun j e => by cases e; simp at hD; omega)
  case stop =>
    rintro D c pre post W _ _ h _
    exact h.elim

theorem Collect (A : Option Addr) (Bs Bn n₁ cap m sz : Nat) (ls : List (List UInt8)) (w : World) (hm : ls.length = m) (hmc : m ≤ cap) (hle : m ≤ 1000) (hz : 1 ≤ sz) (hz' : sz ≤ 1000) (hBs : Boxed w Bs 22 (.slice A m cap)) (hBn : Boxed w Bn 3 (.int .i64 (sz : Int))) (hn : n₁ ≤ w.heap.size) (hR : RdS w n₁ A ls) :
    Calls Try.prog 56 #[.func (.func 61) #[] #[.pointer (some ⟨Bs, 0, none⟩), .pointer (some ⟨Bn, 0, none⟩)]] w (SlEnd w (chV A sz m 0)) := by
  have HM := Lib.hid hm; clear hm
  go_enter Try.func56, Try.ntmps56
  go_wp2_with fail
  refine (AppendSeq A Bs Bn n₁ cap m sz ls _ HM.out hmc hle hz hz' hBs hBn hn hR).mono ?_
  rintro e w' ⟨v, rfl, hrow, hb⟩
  obtain ⟨Av, cv, rfl, hcv, hrd⟩ := rd_of_own hrow
  have HR := Lib.hid hrow; clear hrow hrd
  go_wp2
  go_ret
  exact ⟨_, rfl, HR.out, hb⟩

/-- How cut ends: the parts, in a row of its own. -/
def CutEnd (w : World) (B : Nat) (ps : List (List (List UInt8))) (e : Ending) (w' : World) : Prop :=
  ∃ v vs, e = .returned v ∧ w'.ownsRow w.heap.size 22 1 v ps.length vs ∧ Parts w' B vs ps ∧ Below w.heap.size w w'

set_option maxHeartbeats 400000 in
theorem Cut (A : Option Addr) (cap m sz B : Nat) (ls : List (List UInt8)) (w : World) (hm : ls.length = m) (hmc : m ≤ cap) (hle : m ≤ 1000) (hz : 1 ≤ sz) (hz' : sz ≤ 1000) (hB : B ≤ w.heap.size) (hR : RdS w B A ls) :
    Calls Try.prog 52 #[.slice A m cap, .int .i64 (sz : Int)] w (CutEnd w B (ch sz ls 0)) := by
  have HM := Lib.hid hm; clear hm
  go_enter Try.func52, Try.ntmps52
  go_wp2_with fail
  refine ((callsIn_wide (n := 0)).1 (chunk_in 0 A m cap sz w hz hz')).mono ?_
  rintro e w' ⟨rfl, rfl⟩
  have hb1 := (Boxed.new w 22 (.slice A m cap)).alloc (.cells #[.int .i64 (sz : Int)] 3)
  have hb2 := Boxed.new (w.alloc (.cells #[.slice A m cap] 22)) 3 (.int .i64 (sz : Int))
  rw [World.size_alloc] at hb2
  have hw2 : Below w.heap.size w ((w.alloc (.cells #[.slice A m cap] 22)).alloc (.cells #[.int .i64 (sz : Int)] 3)) := ((Below.refl _ _).alloc (Nat.le_refl _) _).alloc (by simp) _
  go_wp2_with fail
  refine (Collect A _ _ B cap m sz ls _ HM.out hmc hle hz hz' hb1 hb2 (by simp; omega) (hR.below (hw2.mono hB))).mono ?_
  rintro e w' ⟨v, rfl, hrow, hb⟩
  have hp := parts_ch hR (sz := sz) (by omega) m 0 (by rw [HM.out]; omega)
  rw [HM.out] at hp
  have hlen := hp.1
  rw [hlen] at hrow
  obtain ⟨Av, cv, rfl, hcv, hrd⟩ := rd_of_own hrow
  have hbb := hw2.trans (hb.mono (by simp; omega))
  have HR : Hid (CutEnd w B (ch sz ls 0) (.returned (.slice Av (ch sz ls 0).length cv)) w') := Lib.hid ⟨_, _, rfl, own_mono hrow (by simp; omega), hp.below (hbb.mono hB), hbb⟩
  clear hrow hrd hp hlen hb hcv
  go_wp2
  go_ret
  exact HR.out

set_option maxHeartbeats 400000 in
/-- root answers a number from 1 on, not beyond 1000. -/
theorem Root (n : Nat) (w : World) (hn : n ≤ 1000) : Calls Try.prog 53 #[.int .i64 (n : Int)] w fun e w' => (∃ r : Nat, 1 ≤ r ∧ r ≤ 1000 ∧ e = .returned (.int .i64 (r : Int))) ∧ w = w' := by
  go_enter Try.func53, Try.ntmps53
  go_wp2
  go_loop [3] (fun i => ∃ r : Nat, 1 ≤ r ∧ r ≤ 100 ∧ i = .int .i64 (r : Int)) (fun i => 100 - (intOf i).toNat)
  case atStart => exact ⟨1, by omega, by omega, rfl⟩
  case round =>
    obtain ⟨r, h1, h2, rfl⟩ := hrel
    have hmul : ((r : Int) * (r : Int)) = ((r * r : Nat) : Int) := by simp
    have hb : r * r ≤ 10000 := Nat.mul_le_mul h2 h2
    have hb' : (r : Int) * (r : Int) ≤ 10000 := by omega
    have hb0 : (0 : Int) ≤ (r : Int) * (r : Int) := by omega
    by_cases hlt : (r : Int) * (r : Int) < (n : Int)
    · have hr : r < 100 := by
        rcases Nat.lt_or_ge r 100 with h | h
        · exact h
        · have := Nat.mul_le_mul h h; omega
      clear hmul
      go_wp2
      go_round
      case rel => exact ⟨r + 1, by omega, by omega, by go_num⟩
      case measure => simp [intOf]; omega
    · clear hmul
      go_wp2
      go_ret
      exact ⟨⟨r, h1, by omega, rfl⟩, rfl⟩

end Lc
end Go.Proofs.Ytkpgkbllcdpobaa

namespace Go.Proofs.Ytkpgkbllcdpobaa
open Go.RowKit Go.Shelf
set_option linter.unusedVariables false
namespace Lc
open Tx Rg
attribute [local go_sem] Oper.semAt_some

theorem info_row : (Try.prog.info? 74).map (fun i => (i.zero, i.size, i.bytes)) = some (some (.slice none 0 0), 1, 24) := by kernel_rfl

/-- How table ends. -/
def TabEnd (w : World) (m np : Nat) (last : Value) (ps : List (List (List UInt8))) (zs bs : List (List UInt8)) (e : Ending) (w' : World) : Prop :=
  ∃ g cap tv, e = .returned (.slice (some ⟨g, 0, none⟩) (np + 1) cap) ∧ w'.ownsRow w.heap.size 74 1 (.slice (some ⟨g, 0, none⟩) (np + 1) cap) (np + 1) tv ∧ tv[np]? = some last ∧
    (∀ k, k < np → ∃ v, tv[k]? = some v ∧ w'.ownsRow w.heap.size 3 1 v (m + 1) (rowV ((ps.drop k).flatten ++ zs) bs)) ∧ Below w.heap.size w w'

/-- What the rows so far are: tv at W, from place q on. -/
def TabRows (w : World) (m np : Nat) (T last : Value) (ps : List (List (List UInt8))) (zs bs : List (List UInt8)) (q : Nat) (tv : List Value) (W : World) : Prop :=
  W.ownsRow w.heap.size 74 1 T (np + 1) tv ∧ tv[np]? = some last ∧
      ∀ k, q ≤ k → k < np → ∃ v, tv[k]? = some v ∧ W.ownsRow w.heap.size 3 1 v (m + 1) (rowV ((ps.drop k).flatten ++ zs) bs)
/-- Between two rounds. -/
def TabInv (w : World) (m np : Nat) (bv T last : Value) (ps : List (List (List UInt8))) (zs bs : List (List UInt8)) (pre : List (Nat × Value)) (W : World) : Prop :=
  (Boxed W w.heap.size 22 bv ∧ Boxed W (w.heap.size + 1 + 1) 79 T) ∧ (∃ tv : List Value, TabRows w m np T last ps zs bs (np - pre.length) tv W) ∧ Below w.heap.size w W
theorem tabInv_ab (w : World) (m np : Nat) (bv T last : Value) (ps : List (List (List UInt8))) (zs bs : List (List UInt8)) {B : Nat} (hB : w.heap.size ≤ B) : Ab Plain B (TabInv w m np bv T last ps zs bs) := by
  refine Ab.and (Ab.and (ab_boxed _ (fun _ => plain_cells _ _ _)) (ab_boxed _ (fun _ => plain_cells _ _ _))) (Ab.and (ab_ex fun tv => Ab.and (ab_row _ _ (fun _ => plain_cells _ _ _)) (Ab.and (ab_pure _ _ _) ?_)) (ab_below (Nat.le_refl _) hB))
  intro s W W' row hs hg hr k h1 h2
  obtain ⟨v, h3, h4⟩ := hs k h1 h2
  exact ⟨v, h3, ab_row (Free := Plain) (B := B) (fun _ : Unit => m + 1) (fun _ => rowV ((ps.drop k).flatten ++ zs) bs) (fun _ => plain_cells _ _ _) () W W' row h4 hg hr⟩

theorem rows_ne {W : World} {base base' size size' n n' : Nat} {e e' : TypeId} {v v' : Value} {xs xs' : List Value} (h : W.ownsRow base e size v n xs) (h' : W.ownsRow base' e' size' v' n' xs') (hne : e ≠ e') : v.ownBlock = none ∨ v.ownBlock ≠ v'.ownBlock := by
  rcases h.2 with ⟨rfl, _⟩ | ⟨g, _, cur, rfl, _, hg, _⟩
  · exact .inl rfl
  · right
    rcases h'.2 with ⟨rfl, _⟩ | ⟨g', _, cur', rfl, _, hg', _⟩
    · simp [Value.ownBlock]
    · intro e1
      obtain rfl : g = g' := by simpa [Value.ownBlock] using e1
      rw [hg] at hg'
      simp at hg'
      exact hne hg'.2
theorem grown_of_below {W W' : World} (h : Below W.heap.size W W') (r : Option Nat) : W.grownBy W' r := ⟨h.os, h.tape, h.output, h.size, fun k hk _ => h.block k hk⟩

theorem tab_next {w W W2 : World} {m np k g cap gv cv Bs : Nat} {bv last u : Value} {ps : List (List (List UInt8))} {zs bs : List (List UInt8)} {pre : List (Nat × Value)} {tv : List Value} (hk : k < ps.length) (hn : ps.length = np) (hp : pre.length + k + 1 = np)
    (hI : TabInv w m np bv (.slice (some ⟨g, 0, none⟩) (np + 1) cap) last ps zs bs pre W) (hrow : W.ownsRow w.heap.size 74 1 (.slice (some ⟨g, 0, none⟩) (np + 1) cap) (np + 1) tv) (hl : tv[np]? = some last)
    (hall : ∀ k, np - pre.length ≤ k → k < np → ∃ v, tv[k]? = some v ∧ W.ownsRow w.heap.size 3 1 v (m + 1) (rowV ((ps.drop k).flatten ++ zs) bs))
    (hrv : W2.ownsRow W.heap.size 3 1 (.slice (some ⟨gv, 0, none⟩) (m + 1) cv) (m + 1) (rowV (ps[k] ++ ((ps.drop (k + 1)).flatten ++ zs)) bs)) (hbv : Below W.heap.size W.drew W2) :
    (∀ B, KeepsFrom B W (W2.setCell ⟨g, k, none⟩ (.slice (some ⟨gv, 0, none⟩) (m + 1) cv))) ∧ KpB w.heap.size Bs 76 W (W2.setCell ⟨g, k, none⟩ (.slice (some ⟨gv, 0, none⟩) (m + 1) cv)) ∧
      TabInv w m np bv (.slice (some ⟨g, 0, none⟩) (np + 1) cap) last ps zs bs (pre ++ [(k, u)]) (W2.setCell ⟨g, k, none⟩ (.slice (some ⟨gv, 0, none⟩) (m + 1) cv)) := by
  have hb2 : Below W.heap.size W W2 := ⟨hbv.os, hbv.tape, hbv.output, hbv.size, hbv.block⟩
  have hg1 := grown_of_below hb2 none
  obtain ⟨⟨h3, h4⟩, _, hbel⟩ := hI
  have hrow2 := hrow.kept hg1 (.inr (by simp [Value.ownBlock]))
  obtain ⟨hr3, hg3⟩ := hrow2.stored k (.slice (some ⟨gv, 0, none⟩) (m + 1) cv)
  have hgw := (hrow.lt g rfl).1
  have hsz := hbel.size
  have kb : ∀ {b : Nat} {t : TypeId} {v : Value}, Boxed W b t v → t ≠ 74 → Boxed (W2.setCell ⟨g, k, none⟩ (.slice (some ⟨gv, 0, none⟩) (m + 1) cv)) b t v := fun h ht =>
    (h.kept hg1 (by simp)).kept hg3 (Boxed.not_row (h.kept hg1 (by simp)) ht hrow2)
  refine ⟨fun B => ((KeepsOthers.of_grownBy hg1 (fun j o e _ => by cases e)).trans (KeepsOthers.setCell _ _ _)).from B, ⟨((hb2.mono hsz)).setCell (p := ⟨g, k, none⟩) hgw _, fun v hv => kb hv (by decide)⟩, ⟨kb h3 (by decide), kb h4 (by decide)⟩,
    ⟨_, hr3, ?_, fun k' h1 h2 => ?_⟩, (hbel.trans (hb2.mono hsz)).setCell (p := ⟨g, k, none⟩) hgw _⟩
  · rw [List.getElem?_set_ne (by omega)]; exact hl
  · have h1' : k ≤ k' := by rw [List.length_append] at h1; simp at h1; omega
    by_cases e : k = k'
    · subst e
      refine ⟨_, List.getElem?_set_self (by have := hrow.1; omega), ?_⟩
      have := (own_mono hrv hsz).kept hg3 (rows_ne hrv hrow2 (by decide))
      rw [List.drop_eq_getElem_cons hk, List.flatten_cons, List.append_assoc]
      exact this
    · obtain ⟨v, h5, h6⟩ := hall k' (by omega) h2
      refine ⟨v, by rw [List.getElem?_set_ne e]; exact h5, ?_⟩
      have h7 := h6.kept hg1 (by cases v.ownBlock <;> simp)
      exact h7.kept hg3 (rows_ne h7 hrow2 (by decide))

set_option maxRecDepth 100000 in
set_option maxHeartbeats 2000000 in
theorem table (A A' Ar : Option Addr) (c c' cr np m B : Nat) (vs : List Value) (ps : List (List (List UInt8))) (zs bs : List (List UInt8)) (w : World) (hnp : ps.length = np) (hm : bs.length = m) (hlp : np ≤ 1000) (hlm : m ≤ 1000) (hle : ∀ p ∈ ps, p.length ≤ 1000) (hB : B ≤ w.heap.size)
    (hV : Rd w B A vs) (hP : Parts w B vs ps) (hR' : RdS w B A' bs) (hRr : Rd w B Ar (rowV zs bs)) :
    Calls Try.prog 54 #[.slice A np c, .slice A' m c', .slice Ar (m + 1) cr] w (TabEnd w m np (.slice Ar (m + 1) cr) ps zs bs) := by
  obtain ⟨j0, hj, hy0, hy1, hy2⟩ := info_parts info_row
  have HM := Lib.hid hm; clear hm
  have HN := Lib.hid hnp; clear hnp
  have hmk : ∀ W : World, (Instr.makeSlice 79 (.int .i64 ((np : Int) + 1)) (.int .i64 ((np : Int) + 1))).run Try.prog W = .ok (.slice (some ⟨W.heap.size, 0, none⟩) (np + 1) (np + 1)) (W.alloc (.cells (madeCells #[.slice none 0 0] (np + 1)) 74)) := by
    intro W
    have := run_makeSlice (P := Try.prog) W 79 74 j0 (.slice none 0 0) Try.underlying79 hj hy0 .i64 .i64 ((np : Int) + 1) ((np : Int) + 1) (by omega) (by omega) (by rw [hy1]; omega) (by rw [hy2]; omega) (by omega)
    rw [hy1, Nat.mul_one, show ((np : Int) + 1).toNat = np + 1 by omega] at this
    exact this
  obtain ⟨cz, hcz⟩ : ∃ cz, madeCells #[.slice none 0 0] (np + 1) = cz := ⟨_, rfl⟩
  have hz1 : cz[np]? = some (.slice none 0 0) := by rw [← hcz]; simp [madeCells, Nat.mod_one]
  have HZ : Hid (cz.size = np + 1) := Lib.hid (by rw [← hcz, size_madeCells])
  simp only [hcz] at hmk
  clear hcz
  refine (callsIn_wide (n := 3)).1 ?_
  refine callsIn_of_wp_marks Try.func54 rfl trivial ?_ rfl
  simp only [Try.ntmps54, List.size_toArray, List.length_cons, List.length_nil, Nat.reduceAdd, Nat.reduceSub, Array.replicate_succ, Array.replicate_zero, List.push_toArray, List.append_toArray, List.nil_append, List.cons_append]
  gi_wp2_with fail
  refine ⟨trivial, ?_⟩
  refine (backP_in 2 _ _ _ _).mono ?_
  rintro e w' ⟨rfl, rfl⟩
  gi_wp2
  obtain ⟨tz, htz⟩ : ∃ tz, cz.setIfInBounds np (.slice Ar (m + 1) cr) = tz := ⟨_, rfl⟩
  have hts : tz.size = np + 1 := by rw [← htz]; simpa using HZ.out
  have htn : tz.toList[np]? = some (.slice Ar (m + 1) cr) := by rw [← htz]; simp [HZ.out]
  rw [htz]
  clear htz hz1 HZ
  have hb0 := ((Boxed.new w 22 (.slice A' m c')).alloc (.cells tz 74))
  have hrw := World.ownsRow_lit (base := w.heap.size) (e := 74) (size := 1) (w.alloc (.cells #[.slice A' m c'] 22)) tz (np + 1) (by simp) (by unfold maxLen; omega) (by omega)
  have hbt := Boxed.new ((w.alloc (.cells #[.slice A' m c'] 22)).alloc (.cells tz 74)) 79 (.slice (some ⟨w.heap.size + 1, 0, none⟩) (np + 1) (np + 1))
  have hbs := Boxed.new (((w.alloc (.cells #[.slice A' m c'] 22)).alloc (.cells tz 74)).alloc (.cells #[.slice (some ⟨w.heap.size + 1, 0, none⟩) (np + 1) (np + 1)] 79)) 76 (.slice A np c)
  simp only [World.size_alloc] at hrw hbt hbs
  have hw4 : Below w.heap.size w ((((w.alloc (.cells #[.slice A' m c'] 22)).alloc (.cells tz 74)).alloc (.cells #[.slice (some ⟨w.heap.size + 1, 0, none⟩) (np + 1) (np + 1)] 79)).alloc (.cells #[.slice A np c] 76)) :=
    ((((Below.refl _ _).alloc (Nat.le_refl _) _).alloc (by simp) _).alloc (by simp; omega) _).alloc (by simp; omega) _
  have hvl : vs.length = np := by rw [hP.1, HN.out]
  have HV := Lib.hid hvl; clear hvl
  refine range_law' (n := 3) (gf := 62) (lb := #[.pointer (some ⟨w.heap.size + 1 + 1 + 1, 0, none⟩)]) rfl (enters_of Try.func62 (by kernel_rfl) rfl) (Free := Plain) (fun _ h => h)
    (backP_gives 2 (w.heap.size + 1 + 1 + 1) w.heap.size c np A vs HV.out (by omega) _ hbs (by simp; omega) ((hV.up hB).below hw4)) kpB_t (kpB_b (by simp; omega) (by simp)) kpB_r (fun _ => rfl)
    (TabInv w m np (.slice A' m c') (.slice (some ⟨w.heap.size + 1, 0, none⟩) (np + 1) (np + 1)) (.slice Ar (m + 1) cr) ps zs bs) (fun _ _ _ => False) (tabInv_ab _ _ _ _ _ _ _ _ _ (by simp; omega)) (fun _ => ab_pure _ _ _) ?h0 ?a1 ?assign ?body ?done ?stop
  case h0 =>
    exact ⟨⟨(hb0.alloc _).alloc _, hbt.alloc _⟩, ⟨tz.toList, (hrw.alloc _).alloc _, htn, fun k h1 h2 => by simp at h1; omega⟩, hw4⟩
  case assign =>
    intro l x W K hK
    gi_wp2
    exact hK
  case body =>
    rintro l pre post ⟨k, v⟩ W hfull hI
    obtain ⟨hk, hv, hp⟩ := bk_split hfull
    dsimp only at hk hv hp
    clear hfull
    rw [HV.out] at hp
    have hkn : k < np := by rw [HV.out] at hk; exact hk
    have hkp : k < ps.length := by rw [HN.out]; exact hkn
    obtain ⟨Ap, cp, hpe, _, hpr⟩ := hP.at_ hk hkp
    obtain rfl : v = .slice Ap ps[k].length cp := by rw [← hv]; exact hpe
    clear hv hpe hk
    have hlp' := hle _ (List.getElem_mem hkp)
    obtain ⟨⟨h3, h4⟩, ⟨tv, hrow, hl, hall⟩, hgr⟩ := id hI
    have hnext : ∃ Ark crk, tv[k + 1]? = some (.slice Ark (m + 1) crk) ∧ Rd W W.heap.size Ark (rowV ((ps.drop (k + 1)).flatten ++ zs) bs) := by
      by_cases e : k + 1 = np
      · refine ⟨Ar, cr, by rw [e]; exact hl, ?_⟩
        rw [List.drop_of_length_le (by rw [HN.out]; omega), List.flatten_nil, List.nil_append]
        exact (hRr.below (hgr.mono hB)).up (by have := hgr.size; omega)
      · obtain ⟨v, h1, h2⟩ := hall (k + 1) (by omega) (by omega)
        obtain ⟨Av, cv, rfl, _, hrd⟩ := rd_of_own h2
        exact ⟨Av, cv, h1, hrd⟩
    obtain ⟨Ark, crk, hk1, hrd1⟩ := hnext
    have hold : ∃ old, tv[k]? = some old := ⟨_, List.getElem?_eq_getElem (by have := hrow.1; omega)⟩
    obtain ⟨old, hold⟩ := hold
    have hc3 := h3.cell
    have hc4 := h4.cell
    have hck := hrow.cellAt k (by omega)
    have hck1 := hrow.cellAt (k + 1) (by omega)
    rw [hold] at hck
    rw [hk1] at hck1
    have hfk := hrow.frozenAt k
    have hp2 : Rd W W.heap.size Ap (ps[k].map strV) := (Rd.below hpr (hgr.mono hB)).up (by have := hgr.size; omega)
    have hp3 : RdS W W.heap.size A' bs := (hR'.below (hgr.mono hB)).up (by have := hgr.size; omega)
    have HI := Lib.hid (And.intro hI (And.intro hrow (And.intro hold (And.intro hl hall))))
    clear hI hrow hold hl hall hk1 h3 h4
    have HP := Lib.hid hp; clear hp
    have hkw : IntKind.i64.wrap ((k : Int) + 1) = (k : Int) + 1 := IntWalk.i64_in _ (by omega)
    gi_wp2
    have i0 : (0 : Int) ≤ (k : Int) + 1 := by omega
    have i1 : ((k : Int) + 1).toNat = k + 1 := by omega
    have i2 : (k : Int) + 1 < (np : Int) + 1 := by omega
    have i3 : (k : Int) < (np : Int) + 1 := by omega
    refine round_held (S := fun X : World => X.cell? ⟨w.heap.size, 0, none⟩ = some (.slice A' m c') ∧ X.cell? ⟨w.heap.size + 1 + 1, 0, none⟩ = some (.slice (some ⟨w.heap.size + 1, 0, none⟩) (np + 1) (np + 1)) ∧ X.cell? ⟨w.heap.size + 1, k + 1, none⟩ = some (.slice Ark (m + 1) crk) ∧ (∃ u, X.cell? ⟨w.heap.size + 1, k, none⟩ = some u) ∧ X.frozen? ⟨w.heap.size + 1, k, none⟩ = false) (by kernel_rfl) (by kernel_rfl) ?hq ?hS (fun hS0 => ?_)
    case hq => rintro ⟨_, _, h⟩; exact h
    case hS => exact ⟨hc3, hc4, hck1, ⟨_, hck⟩, hfk⟩
    refine wpAnyH_take (i := 0) (v := ?_) rfl (by kernel_rfl) (by kernel_rfl) (by kernel_rfl) (fun _ _ _ h => h) (Or.inl ⟨by rfl, ?_⟩) hS0 ?_
    rotate_left
    · intro X hX
      obtain ⟨hX1, hX2, hX3, hX4, hX5⟩ := hX
      go_simp
      try with_reducible rfl
    simp only [Act.put]
    refine wpAnyH_take (i := 1) (v := ?_) rfl (by kernel_rfl) (by kernel_rfl) (by kernel_rfl) (fun _ _ _ h => h) (Or.inl ⟨by rfl, ?_⟩) hS0 ?_
    rotate_left
    · intro X hX
      obtain ⟨hX1, hX2, hX3, hX4, hX5⟩ := hX
      go_simp
      try with_reducible rfl
    simp only [Act.put]
    refine wpAnyH_take (i := 2) (v := ?_) rfl (by kernel_rfl) (by kernel_rfl) (by kernel_rfl) (fun _ _ _ h => h) (Or.inl ⟨by rfl, ?_⟩) hS0 ?_
    rotate_left
    · intro X hX
      obtain ⟨hX1, hX2, hX3, hX4, hX5⟩ := hX
      go_simp
      try with_reducible rfl
    simp only [Act.put]
    refine wpAnyH_take (i := 3) (v := ?_) rfl (by kernel_rfl) (by kernel_rfl) (by kernel_rfl) (fun _ _ _ h => h) (Or.inl ⟨by rfl, ?_⟩) hS0 ?_
    rotate_left
    · intro X hX
      obtain ⟨hX1, hX2, hX3, hX4, hX5⟩ := hX
      go_simp
      try with_reducible rfl
    simp only [Act.put]
    refine wpAnyH_take (i := 4) (v := ?_) rfl (by kernel_rfl) (by kernel_rfl) (by kernel_rfl) (fun _ _ _ h => h) (Or.inl ⟨by rfl, ?_⟩) hS0 ?_
    rotate_left
    · intro X hX
      obtain ⟨hX1, hX2, hX3, hX4, hX5⟩ := hX
      go_simp
      try with_reducible rfl
    simp only [Act.put]
    refine wpAnyH_take (i := 5) (v := ?_) rfl (by kernel_rfl) (by kernel_rfl) (by kernel_rfl) (fun _ _ _ h => h) (Or.inl ⟨by rfl, ?_⟩) hS0 ?_
    rotate_left
    · intro X hX
      obtain ⟨hX1, hX2, hX3, hX4, hX5⟩ := hX
      go_simp
      try with_reducible rfl
    simp only [Act.put]
    refine wpAnyH_take (i := 6) (v := ?_) rfl (by kernel_rfl) (by kernel_rfl) (by kernel_rfl) (fun _ _ _ h => h) (Or.inl ⟨by rfl, ?_⟩) hS0 ?_
    rotate_left
    · intro X hX
      obtain ⟨hX1, hX2, hX3, hX4, hX5⟩ := hX
      go_simp
      try with_reducible rfl
    simp only [Act.put]
    refine wpAnyH_take (i := 7) (v := ?_) rfl (by kernel_rfl) (by kernel_rfl) (by kernel_rfl) (fun _ _ _ h => h) (Or.inl ⟨by rfl, ?_⟩) hS0 ?_
    rotate_left
    · intro X hX
      obtain ⟨hX1, hX2, hX3, hX4, hX5⟩ := hX
      go_simp
      try with_reducible rfl
    simp only [Act.put]
    refine wpAnyH_take (i := 8) (v := ?_) rfl (by kernel_rfl) (by kernel_rfl) (by kernel_rfl) (fun _ _ _ h => h) (Or.inl ⟨by rfl, ?_⟩) hS0 ?_
    rotate_left
    · intro X hX
      obtain ⟨hX1, hX2, hX3, hX4, hX5⟩ := hX
      go_simp
      try with_reducible rfl
    simp only [Act.put]
    refine wpAnyH_ready (rs := [9]) (by kernel_rfl) (by simp) ?_
    refine AllReadyH.cons rfl (fun K hK => ?_) AllReadyH.nil
    go_simp
    refine (left Ap A' Ark cp c' crk ps[k].length m W.heap.size ps[k] ((ps.drop (k + 1)).flatten ++ zs) bs W.drew rfl HM.out hlp' hlm (Nat.le_refl _) hp2 hp3 hrd1).mono ?_
    rintro e W2 ⟨v, rfl, hrv, hbv⟩
    obtain ⟨gv, cv, rfl⟩ := ownsRow_succ hrv
    have l3 := World.block_lt_of_cell? W _ hc3
    have l4 := World.block_lt_of_cell? W _ hc4
    have lk := World.block_lt_of_cell? W _ hck
    have hS1 : W2.cell? ⟨w.heap.size, 0, none⟩ = some (.slice A' m c') ∧ W2.cell? ⟨w.heap.size + 1 + 1, 0, none⟩ = some (.slice (some ⟨w.heap.size + 1, 0, none⟩) (np + 1) (np + 1)) ∧ W2.cell? ⟨w.heap.size + 1, k + 1, none⟩ = some (.slice Ark (m + 1) crk) ∧ (∃ u, W2.cell? ⟨w.heap.size + 1, k, none⟩ = some u) ∧ W2.frozen? ⟨w.heap.size + 1, k, none⟩ = false :=
      ⟨(hbv.cell (p := ⟨w.heap.size, 0, none⟩) l3).trans hc3, (hbv.cell (p := ⟨w.heap.size + 1 + 1, 0, none⟩) l4).trans hc4, (hbv.cell (p := ⟨w.heap.size + 1, k + 1, none⟩) lk).trans hck1, ⟨_, (hbv.cell (p := ⟨w.heap.size + 1, k, none⟩) lk).trans hck⟩, (hbv.frozen (p := ⟨w.heap.size + 1, k, none⟩) lk).trans hfk⟩
    refine hK.out _ _ hS1 (fun _ => ?_)
    clear hK K hS0
    have hS0 := hS1
    refine wpAnyH_take (i := 10) (v := ?_) rfl (by kernel_rfl) (by kernel_rfl) (by kernel_rfl) (fun _ _ _ h => h) (Or.inl ⟨by rfl, ?_⟩) hS0 ?_
    rotate_left
    · intro X hX
      obtain ⟨hX1, hX2, hX3, hX4, hX5⟩ := hX
      go_simp
      try with_reducible rfl
    simp only [Act.put]
    refine wpAnyH_ready (rs := [11]) (by kernel_rfl) (by simp) ?_
    refine AllReadyH.cons rfl (fun K hK => ?_) AllReadyH.nil
    obtain ⟨u1, u2, u3, ⟨u, u4⟩, u5⟩ := hS1
    go_simp
    refine hK.out _ _ ⟨?_, ?_, ?_, ⟨_, World.cell?_setCell_same' _ _ _ (by rw [u4]; rfl)⟩, by rw [World.frozen?_setCell]; exact u5⟩ (fun _ => wpAnyH_done (by kernel_rfl) ?_ _)
    · rw [World.cell?_setCell_far _ _ _ _ (by simp)]; exact u1
    · rw [World.cell?_setCell_far _ _ _ _ (by simp)]; exact u2
    · rw [World.cell?_setCell_other _ _ _ _ (by simp)]; exact u3
    clear hK K
    have hend := tab_next (Bs := w.heap.size + 1 + 1 + 1) (u := .slice Ap ps[k].length cp) hkp HN.out HP.out HI.out.1 HI.out.2.1 HI.out.2.2.2.1 HI.out.2.2.2.2 hrv hbv
    gi_wp2
    exact ⟨hend.1 _, hend.2⟩
  case done =>
    rintro D W hD ⟨⟨_, h4⟩, ⟨tv, hrow, hl, hall⟩, hgr⟩ hK
    have hc := h4.cell
    gi_wp2
    refine ⟨by simp, .inl ⟨_, _, rfl, run_takeDeferred hK, ?_⟩⟩
    refine ⟨_, results_tmp rfl _ _ _, _, _, tv, rfl, ownsRow_putObj hrow (.deferred none) hK rfl, hl, fun k hk => ?_, ?_⟩
    · obtain ⟨v, h1, h2⟩ := hall k (by rw [bk_length, HV.out]; omega) hk
      exact ⟨v, h1, ownsRow_putObj h2 (.deferred none) hK rfl⟩
    · exact hgr.grown (grownBy_putObj' _ D _) hgr.size (fun j e => by cases e; simp at hD; omega)
  case stop =>
    rintro D c pre post W _ _ h _
    exact h.elim

end Lc
end Go.Proofs.Ytkpgkbllcdpobaa

namespace Go.Proofs.Ytkpgkbllcdpobaa
open Go.RowKit Go.Shelf
set_option linter.unusedVariables false
namespace Lc
open Tx Rg
attribute [local go_sem] Oper.semAt_some

/-- The address leads to the cells xs, in a block that K says is kept; or there are none. -/
def Held (K : Nat → TypeId → Prop) (W : World) (A : Option Addr) (xs : List Value) : Prop :=
  xs = [] ∨ ∃ a c t f, A = some a ∧ W.heap[a.block]? = some (.cells c t f) ∧ K a.block t ∧ ∀ j u, xs[j]? = some u → W.cell? (a.add j) = some u
/-- What lies below n₁ is kept, and each block of cells that K says so. -/
def KpK (n₁ : Nat) (K : Nat → TypeId → Prop) (W W' : World) : Prop := Below n₁ W W' ∧ ∀ k c t f, W.heap[k]? = some (.cells c t f) → K k t → W'.heap[k]? = some (.cells c t f)

section
variable {K : Nat → TypeId → Prop} {n₁ : Nat} {W W' : World}
theorem kpK_t {A B C : World} (h : KpK n₁ K A B) (k : KpK n₁ K B C) : KpK n₁ K A C := ⟨h.1.trans k.1, fun i c t f h1 h2 => k.2 i c t f (h.2 i c t f h1 h2) h2⟩
theorem kpK_r (W : World) : KpK n₁ K W W := ⟨Below.refl _ _, fun _ _ _ _ h _ => h⟩
theorem kpK_b {l : Nat} (hn : n₁ ≤ l) (W : World) (o o' : Obj) (h : W.heap[l]? = some o) (hc : o.isCells = false) : KpK n₁ K W (W.putObj l o') :=
  ⟨(Below.refl n₁ W).grown (grownBy_putObj' W l o') (by have := (Array.getElem?_eq_some_iff.1 h).1; omega) (fun k e => by cases e; exact hn), fun k c t f h1 _ => by
    by_cases e : k = l
    · subst e; rw [h] at h1; cases h1; cases hc
    · exact (World.putObj_heap_other e).trans h1⟩
theorem kpK_new (hn : n₁ ≤ W.heap.size) (h : Below W.heap.size W W') : KpK n₁ K W W' := ⟨h.mono hn, fun k c t f h1 _ => (h.block k (Array.getElem?_eq_some_iff.1 h1).1).trans h1⟩
theorem kpK_drew (hn : n₁ ≤ W.heap.size) (h : Below W.heap.size W.drew W') : KpK n₁ K W W' := kpK_new hn ⟨h.os, h.tape, h.output, h.size, h.block⟩
theorem Held.kp {A : Option Addr} {xs : List Value} (h : Held K W A xs) (hk : KpK n₁ K W W') : Held K W' A xs := by
  rcases h with h | ⟨a, c, t, f, h1, h2, h3, h4⟩
  · exact .inl h
  · have h5 := hk.2 _ c t f h2 h3
    exact .inr ⟨a, c, t, f, h1, h5, h3, fun j u hu => (World.cell?_of_block (w := W) (a := a.add j) (by rw [add_block]; exact h5.trans h2.symm)).trans (h4 j u hu)⟩
theorem Held.rd {A : Option Addr} {xs : List Value} (h : Held K W A xs) : Rd W W.heap.size A xs := by
  rcases h with h | ⟨a, c, t, f, h1, h2, h3, h4⟩
  · exact .inl h
  · exact .inr ⟨a, h1, (Array.getElem?_eq_some_iff.1 h2).1, h4⟩
theorem held_own {base : Nat} {e : TypeId} {g n cap : Nat} {xs : List Value} (h : W.ownsRow base e 1 (.slice (some ⟨g, 0, none⟩) n cap) n xs) (hK : ∀ k, base ≤ k → K k e) : Held K W (some ⟨g, 0, none⟩) xs := by
  rcases h.2 with ⟨h', _⟩ | ⟨g', cap', cur, h', hb, hg, hc, _, hcs, ht⟩
  · cases h'
  · simp only [Value.slice.injEq, Option.some.injEq, Addr.mk.injEq, and_true, true_and] at h'
    obtain ⟨rfl, rfl⟩ := h'
    exact .inr ⟨_, cur, e, (0, 0), rfl, hg, hK _ hb, h.cells rfl⟩
theorem held_own' {base : Nat} {e : TypeId} {v : Value} {n : Nat} {xs : List Value} (h : W.ownsRow base e 1 v n xs) (hK : ∀ k, base ≤ k → K k e) : ∃ A c, v = .slice A n c ∧ n ≤ c ∧ Held K W A xs := by
  rcases h.2 with ⟨rfl, rfl⟩ | ⟨g, cap, cur, rfl, hb, hg, hc, _⟩
  · exact ⟨none, 0, rfl, Nat.le_refl _, .inl (List.eq_nil_of_length_eq_zero (by simpa using h.1))⟩
  · exact ⟨_, cap, rfl, hc, held_own h hK⟩
theorem box_kp {b : Nat} {t : TypeId} {v : Value} (h : Boxed W b t v) (hK : K b t) (hk : KpK n₁ K W W') : Boxed W' b t v := hk.2 _ _ _ _ h hK

/-- A value that reads as a row. -/
def RowH (K : Nat → TypeId → Prop) (W : World) (u : Value) (xs : List Value) : Prop := ∃ A c, u = .slice A xs.length c ∧ Held K W A xs
theorem RowH.kp {u : Value} {xs : List Value} (h : RowH K W u xs) (hk : KpK n₁ K W W') : RowH K W' u xs := let ⟨A, c, e, h⟩ := h; ⟨A, c, e, h.kp hk⟩
/-- A table: rows f 0 to f np. -/
def TabOk (K : Nat → TypeId → Prop) (W : World) (g np : Nat) (f : Nat → List Value) : Prop := ∃ tv : List Value, Held K W (some ⟨g, 0, none⟩) tv ∧ ∀ k, k ≤ np → ∃ u, tv[k]? = some u ∧ RowH K W u (f k)
theorem TabOk.kp {g np : Nat} {f : Nat → List Value} (h : TabOk K W g np f) (hk : KpK n₁ K W W') : TabOk K W' g np f := let ⟨tv, h1, h2⟩ := h; ⟨tv, h1.kp hk, fun k h => let ⟨u, h3, h4⟩ := h2 k h; ⟨u, h3, h4.kp hk⟩⟩
theorem TabOk.at_ {g np : Nat} {f : Nat → List Value} (h : TabOk K W g np f) {k : Nat} (hk : k ≤ np) : ∃ u, W.cell? ⟨g, k, none⟩ = some u ∧ RowH K W u (f k) := by
  obtain ⟨tv, h1, h2⟩ := h
  obtain ⟨u, h3, h4⟩ := h2 k hk
  refine ⟨u, ?_, h4⟩
  rcases h1 with rfl | ⟨a, c, t, fz, e, _, _, h5⟩
  · simp at h3
  · injection e with e; subst e
    have := h5 k u h3
    have e1 : (⟨g, 0, none⟩ : Addr).add k = ⟨g, k, none⟩ := by unfold Addr.add; split <;> simp_all
    rwa [e1] at this
end

theorem grown_of_drew {W W' : World} (h : Below W.heap.size W.drew W') : W.grownBy W' none := ⟨h.os, h.tape, h.output, h.size, fun k hk _ => h.block k hk⟩
theorem tabOk_of_end {K : Nat → TypeId → Prop} {w W : World} {m np g cap : Nat} {last : Value} {ps : List (List (List UInt8))} {zs bs : List (List UInt8)} {tv : List Value} (hm : bs.length = m) (hnp : ps.length = np)
    (hrow : W.ownsRow w.heap.size 74 1 (.slice (some ⟨g, 0, none⟩) (np + 1) cap) (np + 1) tv) (hl : tv[np]? = some last)
    (hall : ∀ k, k < np → ∃ v, tv[k]? = some v ∧ W.ownsRow w.heap.size 3 1 v (m + 1) (rowV ((ps.drop k).flatten ++ zs) bs)) (hlast : RowH K W last (rowV zs bs)) (hK : ∀ k, w.heap.size ≤ k → K k 74 ∧ K k 3) :
    TabOk K W g np (fun k => rowV ((ps.drop k).flatten ++ zs) bs) := by
  refine ⟨tv, held_own hrow (fun k h => (hK k h).1), fun k hk => ?_⟩
  by_cases e : k = np
  · subst e
    refine ⟨last, hl, ?_⟩
    show RowH K W last (rowV ((ps.drop k).flatten ++ zs) bs)
    rw [List.drop_of_length_le (by omega), List.flatten_nil, List.nil_append]
    exact hlast
  · obtain ⟨v, h1, h2⟩ := hall k (by omega)
    obtain ⟨A, c, rfl, _, h3⟩ := held_own' h2 (fun k h => (hK k h).2)
    exact ⟨_, h1, A, c, by rw [rowV_length, hm], h3⟩

theorem TabOk.congr {K : Nat → TypeId → Prop} {W : World} {g np : Nat} {f f' : Nat → List Value} (h : TabOk K W g np f) (e : ∀ k, k ≤ np → f k = f' k) : TabOk K W g np f' := let ⟨tv, h1, h2⟩ := h; ⟨tv, h1, fun k hk => let ⟨u, h3, h4⟩ := h2 k hk; ⟨u, h3, e k hk ▸ h4⟩⟩
theorem flat_one {α : Type} (l : List α) (i : Nat) : ((l.map fun x => [x]).drop i).flatten = l.drop i := by
  rw [← List.map_drop]
  induction l.drop i with
  | nil => rfl
  | cons x l ih => rw [List.map_cons, List.flatten_cons, ih]; rfl
theorem flat_split {α : Type} (ps : List (List α)) (k : Nat) : (ps.drop k).flatten = ps.flatten.drop ((ps.take k).flatten).length := by
  conv => rhs; rw [← List.take_append_drop k ps, List.flatten_append]
  simp
theorem off_succ {α : Type} {ps : List (List α)} {k : Nat} (h : k < ps.length) : ((ps.take (k + 1)).flatten).length = ((ps.take k).flatten).length + ps[k].length := by
  rw [take_snoc' h, List.flatten_append]; simp
theorem off_le {α : Type} (ps : List (List α)) (k : Nat) : ((ps.take k).flatten).length ≤ ps.flatten.length := by
  conv => rhs; rw [← List.take_append_drop k ps, List.flatten_append]
  simp
theorem near_eq {α : Type} {ps : List (List α)} {k i : Nat} (h : k < ps.length) (hi : i ≤ ps[k].length) : ((ps[k].map fun x => [x]).drop i).flatten ++ (ps.drop (k + 1)).flatten = ps.flatten.drop (((ps.take k).flatten).length + i) := by
  have e : ps.flatten.drop (((ps.take k).flatten).length + i) = (ps.flatten.drop ((ps.take k).flatten).length).drop i := (List.drop_drop ..).symm
  rw [e, ← flat_split, flat_one, List.drop_eq_getElem_cons h, List.flatten_cons, List.drop_append_of_le_length hi]
theorem range_split {n i : Nat} (h : i < n) : ∃ post, List.range n = List.range i ++ i :: post := by
  refine ⟨(List.range n).drop (i + 1), ?_⟩
  conv => lhs; rw [← List.take_append_drop i (List.range n)]
  rw [List.take_range, Nat.min_eq_left (by omega), List.drop_eq_getElem_cons (by simpa using h)]
  simp

theorem ch_len {α : Type} (sz : Nat) (ls : List α) : ∀ (f i : Nat), ls.length - i ≤ f → (ch sz ls i).length ≤ ls.length - i
  | f, i, hf => by
    unfold ch
    split
    · rename_i h
      cases f with
      | zero => omega
      | succ f => have := ch_len sz ls f (i + sz) (by omega); simp only [List.length_cons]; omega
    · simp
theorem len_flatten {α : Type} {ps : List (List α)} {p : List α} (h : p ∈ ps) : p.length ≤ ps.flatten.length := by
  obtain ⟨s, t, rfl⟩ := List.append_of_mem h
  simp; omega

theorem rows_in (n : Nat) (A A' : Option Addr) (l c l' c' : Nat) (w : World) :
    CallsIn Fence.wide n Try.prog 49 #[.slice A l c, .slice A' l' c'] w fun e w' => e = .returned (.func (.func 51) #[] #[.pointer (some ⟨w.heap.size, 0, none⟩), .pointer (some ⟨w.heap.size + 1, 0, none⟩)]) ∧ w' = (w.alloc (.cells #[.slice A l c] 22)).alloc (.cells #[.slice A' l' c'] 22) := by
  refine callsIn_of_wp Try.func49 rfl trivial ?_ rfl
  simp only [Try.ntmps49, List.size_toArray, List.length_cons, List.length_nil, Nat.reduceAdd, Nat.reduceSub, Array.replicate_succ, Array.replicate_zero, List.push_toArray, List.append_toArray, List.nil_append, List.cons_append]
  gi_wp2
  go_ret
  exact ⟨rfl, rfl⟩

/-- What stays while rows is gone through. -/
structure REnv (K : Nat → TypeId → Prop) (n₁ Ba Bb : Nat) (va vb : Value) (A A' : Option Addr) (ls bs : List (List UInt8)) (W : World) : Prop where
  ba : Boxed W Ba 22 va
  bb : Boxed W Bb 22 vb
  ra : RdS W n₁ A ls
  rb : RdS W n₁ A' bs
  lo : n₁ ≤ W.heap.size
theorem REnv.kp {K : Nat → TypeId → Prop} {n₁ Ba Bb : Nat} {va vb : Value} {A A' : Option Addr} {ls bs : List (List UInt8)} {W W' : World} (h : REnv K n₁ Ba Bb va vb A A' ls bs W) (ha : K Ba 22) (hb : K Bb 22) (hk : KpK n₁ K W W') : REnv K n₁ Ba Bb va vb A A' ls bs W' :=
  ⟨box_kp h.ba ha hk, box_kp h.bb hb hk, h.ra.below hk.1, h.rb.below hk.1, Nat.le_trans h.lo hk.1.size⟩
/-- .. with the parts and the rows from each of them on. -/
structure FEnv (K : Nat → TypeId → Prop) (n₁ Ba Bb : Nat) (va vb : Value) (A A' Av : Option Addr) (ls bs : List (List UInt8)) (vs : List Value) (ps : List (List (List UInt8))) (g np : Nat) (W : World) : Prop where
  env : REnv K n₁ Ba Bb va vb A A' ls bs W
  hv : Held K W Av vs
  hp : Parts W n₁ vs ps
  far : TabOk K W g np (fun k => rowV ((ps.drop k).flatten) bs)
theorem FEnv.kp {K : Nat → TypeId → Prop} {n₁ Ba Bb g np : Nat} {va vb : Value} {A A' Av : Option Addr} {ls bs : List (List UInt8)} {vs : List Value} {ps : List (List (List UInt8))} {W W' : World} (h : FEnv K n₁ Ba Bb va vb A A' Av ls bs vs ps g np W) (ha : K Ba 22) (hb : K Bb 22) (hk : KpK n₁ K W W') : FEnv K n₁ Ba Bb va vb A A' Av ls bs vs ps g np W' :=
  ⟨h.env.kp ha hb hk, h.hv.kp hk, h.hp.below hk.1, h.far.kp hk⟩

/-- As which values a place is handed over: the row from it on, and the one from the next place on. -/
def ERow (K : Nat → TypeId → Prop) (ls bs : List (List UInt8)) (i : Nat) (vals : Array Value) (W : World) : Prop :=
  ∃ v1 v2, vals = #[v1, v2] ∧ RowH K W v1 (rowV (ls.drop i) bs) ∧ RowH K W v2 (rowV (ls.drop (i + 1)) bs)

set_option maxRecDepth 100000 in
set_option maxHeartbeats 4000000 in
theorem rows1_in (d l n₁ Ba Bb n m c c' : Nat) (K : Nat → TypeId → Prop) (A A' : Option Addr) (ls bs : List (List UInt8)) (hn : ls.length = n) (hm : bs.length = m) (hnc : n ≤ c) (hln : n ≤ 1000) (hlm : m ≤ 1000) (J Jx : List Nat → World → Prop) (W : World)
    (hKa : K Ba 22) (hKb : K Bb 22) (hKn : ∀ k, W.heap.size ≤ k → K k 74 ∧ K k 3 ∧ K k 22)
    (hJn : ∀ s W W', J s W → W.grownBy W' none → J s W')
    (hY : ∀ pre x post vals W1, List.range n = pre ++ x :: post → J pre W1 → ERow K ls bs x vals W1 → YieldAt Fence.wide (d - 1) Try.prog l vals W1 fun e W' =>
      (e = .returned (.bool true) ∧ J (pre ++ [x]) W' ∧ KpK n₁ K W1 W') ∨ (e = .returned (.bool false) ∧ Jx (pre ++ [x]) W'))
    (hE : REnv K n₁ Ba Bb (.slice A n c) (.slice A' m c') A A' ls bs W) (h0 : J [] W) :
    CallsIn Fence.wide d Try.prog 51 #[.func (.yield l) #[] #[], .pointer (some ⟨Ba, 0, none⟩), .pointer (some ⟨Bb, 0, none⟩)] W fun e W' => (∃ v, e = .returned v) ∧ (J (List.range n) W' ∨ ∃ pre post, List.range n = pre ++ post ∧ Jx pre W') := by
  have HM := Lib.hid hm; clear hm
  have HN := Lib.hid hn; clear hn
  have HKn := Lib.hid hKn; clear hKn
  refine callsIn_of_wp Try.func51 rfl trivial ?_ rfl
  simp only [Try.ntmps51, List.size_toArray, List.length_cons, List.length_nil, Nat.reduceAdd, Nat.reduceSub, Array.replicate_succ, Array.replicate_zero, List.push_toArray, List.append_toArray, List.nil_append, List.cons_append]
  gi_wp2
  have hc1 := hE.ba.cell
  refine wpIn_wide.2 ?_
  refine wp_region_held_drew (S := fun X : World => X.cell? ⟨Ba, 0, none⟩ = some (.slice A n c)) (by kernel_rfl) hc1 (fun hS0 => ?_)
  refine wpAnyH_take (i := 0) (v := ?_) rfl (by kernel_rfl) (by kernel_rfl) (by kernel_rfl) (fun _ _ _ h => h) (Or.inl ⟨by rfl, ?_⟩) hS0 ?_
  rotate_left
  · intro X hX
    obtain hX1 := hX
    go_simp
    try with_reducible rfl
  simp only [Act.put]
  refine wpAnyH_take (i := 1) (v := ?_) rfl (by kernel_rfl) (by kernel_rfl) (by kernel_rfl) (fun _ _ _ h => h) (Or.inl ⟨by rfl, ?_⟩) hS0 ?_
  rotate_left
  · intro X hX
    obtain hX1 := hX
    go_simp
    try with_reducible rfl
  simp only [Act.put]
  refine wpAnyH_take (i := 2) (v := ?_) rfl (by kernel_rfl) (by kernel_rfl) (by kernel_rfl) (fun _ _ _ h => h) (Or.inl ⟨by rfl, ?_⟩) hS0 ?_
  rotate_left
  · intro X hX
    obtain hX1 := hX
    go_simp
    try with_reducible rfl
  simp only [Act.put]
  refine wpAnyH_ready (rs := [3]) (by kernel_rfl) (by simp) ?_
  refine AllReadyH.cons rfl (fun K' hK' => ?_) AllReadyH.nil
  go_simp
  refine (Root n W.drew hln).mono ?_
  rintro e w' ⟨⟨r, hr1, hr2, rfl⟩, rfl⟩
  refine hK'.out _ _ hS0 (fun _ => ?_)
  clear hK' K'
  refine wpAnyH_ready (rs := [4]) (by kernel_rfl) (by simp) ?_
  refine AllReadyH.cons rfl (fun K' hK' => ?_) AllReadyH.nil
  go_simp
  refine (Cut A c n r n₁ ls W.drew HN.out hnc hln hr1 hr2 hE.lo hE.ra).mono ?_
  rintro e W1 ⟨v, vs, rfl, hrow1, hparts, hb1⟩
  obtain ⟨Av, cv, rfl, hcv, hheld⟩ := held_own' (K := K) hrow1 (fun k h => (HKn.out k h).2.2)
  have hk1 : KpK n₁ K W W1 := kpK_drew hE.lo hb1
  have hE1 := hE.kp hKa hKb hk1
  have hs1 : W.heap.size ≤ W1.heap.size := hk1.1.size
  have hJ1 : J [] W1 := hJn _ _ _ h0 (grown_of_drew hb1)
  refine hK'.out _ _ hE1.ba.cell (fun hS0 => ?_)
  clear hK' K'
  refine wpAnyH_take (i := 5) (v := ?_) rfl (by kernel_rfl) (by kernel_rfl) (by kernel_rfl) (fun _ _ _ h => h) (Or.inl ⟨by rfl, ?_⟩) hS0 ?_
  rotate_left
  · intro X hX
    obtain hX1 := hX
    go_simp
    try with_reducible rfl
  simp only [Act.put]
  refine wpAnyH_done (by kernel_rfl) ?_ _
  simp only [List.getElem_toArray, List.getElem_cons_succ, List.getElem_cons_zero, List.setIfInBounds_toArray, List.set_cons_succ, List.set_cons_zero]
  clear hS0 hrow1 hc1 hE h0 hb1 hk1
  have hflat : (ch r ls 0).flatten = ls := by rw [ch_join (by omega) ls n 0 (by rw [HN.out]; omega)]; rfl
  have hnps := ch_len r ls n 0 (by rw [HN.out]; omega)
  generalize hps : ch r ls 0 = ps at *
  clear hps
  rw [HN.out] at hnps
  obtain ⟨np, hnp⟩ : ∃ np, ps.length = np := ⟨_, rfl⟩
  rw [hnp] at hnps ⊢
  have HNP := Lib.hid hnp; clear hnp
  have HF := Lib.hid hflat; clear hflat
  have hle : ∀ p ∈ ps, p.length ≤ 1000 := fun p hp => by have := len_flatten hp; rw [HF.out, HN.out] at this; omega
  gi_wp2
  have hc2 := hE1.bb.cell
  refine wpIn_wide.2 ?_
  refine wp_region_held_drew (S := fun X : World => X.cell? ⟨Bb, 0, none⟩ = some (.slice A' m c')) (by kernel_rfl) hc2 (fun hS0 => ?_)
  refine wpAnyH_take (i := 0) (v := ?_) rfl (by kernel_rfl) (by kernel_rfl) (by kernel_rfl) (fun _ _ _ h => h) (Or.inl ⟨by rfl, ?_⟩) hS0 ?_
  rotate_left
  · intro X hX
    obtain hX1 := hX
    go_simp
    try with_reducible rfl
  simp only [Act.put]
  refine wpAnyH_take (i := 1) (v := ?_) rfl (by kernel_rfl) (by kernel_rfl) (by kernel_rfl) (fun _ _ _ h => h) (Or.inl ⟨by rfl, ?_⟩) hS0 ?_
  rotate_left
  · intro X hX
    obtain hX1 := hX
    go_simp
    try with_reducible rfl
  simp only [Act.put]
  refine wpAnyH_take (i := 2) (v := ?_) rfl (by kernel_rfl) (by kernel_rfl) (by kernel_rfl) (fun _ _ _ h => h) (Or.inl ⟨by rfl, ?_⟩) hS0 ?_
  rotate_left
  · intro X hX
    obtain hX1 := hX
    go_simp
    try with_reducible rfl
  simp only [Act.put]
  refine wpAnyH_ready (rs := [3]) (by kernel_rfl) (by simp) ?_
  refine AllReadyH.cons rfl (fun K' hK' => ?_) AllReadyH.nil
  go_simp
  refine (None A' c' m bs W1.drew HM.out hlm).mono ?_
  rintro e W2 ⟨v, rfl, hrow2, hb2⟩
  obtain ⟨g0, c0, rfl⟩ := ownsRow_succ hrow2
  have hk2 : KpK n₁ K W1 W2 := kpK_drew hE1.lo hb2
  have hE2 := hE1.kp hKa hKb hk2
  have hs2 : W1.heap.size ≤ W2.heap.size := hk2.1.size
  have hJ2 : J [] W2 := hJn _ _ _ hJ1 (grown_of_drew hb2)
  have hlast := held_own (K := K) hrow2 (fun k h => (HKn.out k (Nat.le_trans hs1 h)).2.1)
  refine hK'.out _ _ hE2.bb.cell (fun hS0 => ?_)
  clear hK' K'
  refine wpAnyH_ready (rs := [4]) (by kernel_rfl) (by simp) ?_
  refine AllReadyH.cons rfl (fun K' hK' => ?_) AllReadyH.nil
  go_simp
  refine (table Av A' (some ⟨g0, 0, none⟩) cv c' c0 np m W2.heap.size vs ps [] bs W2 HNP.out HM.out (by omega) hlm hle (Nat.le_refl _) (hheld.kp hk2).rd ((hparts.below hk2.1).up hE2.lo) (hE2.rb.up hE2.lo) hlast.rd).mono ?_
  rintro e W3 ⟨g, cap, tv, rfl, hrow3, hl3, hall3, hb3⟩
  have hk3 : KpK n₁ K W2 W3 := kpK_new hE2.lo hb3
  have hE3 := hE2.kp hKa hKb hk3
  have hs3 : W2.heap.size ≤ W3.heap.size := hk3.1.size
  have hJ3 : J [] W3 := hJn _ _ _ hJ2 (grown_of_below hb3 none)
  have hfar := tabOk_of_end (K := K) HM.out HNP.out hrow3 hl3 hall3 ⟨_, _, by rw [rowV_length, HM.out], hlast.kp hk3⟩ (fun k h => ⟨(HKn.out k (by omega)).1, (HKn.out k (by omega)).2.1⟩)
  simp only [List.append_nil] at hfar
  have hFE : FEnv K n₁ Ba Bb (.slice A n c) (.slice A' m c') A A' Av ls bs vs ps g np W3 := ⟨hE3, (hheld.kp hk2).kp hk3, (hparts.below hk2.1).below hk3.1, hfar⟩
  refine hK'.out _ _ hE3.bb.cell (fun hS0 => ?_)
  clear hK' K'
  refine wpAnyH_take (i := 5) (v := ?_) rfl (by kernel_rfl) (by kernel_rfl) (by kernel_rfl) (fun _ _ _ h => h) (Or.inl ⟨by rfl, ?_⟩) hS0 ?_
  rotate_left
  · intro X hX
    obtain hX1 := hX
    go_simp
    try with_reducible rfl
  simp only [Act.put]
  refine wpAnyH_done (by kernel_rfl) ?_ _
  simp only [List.getElem_toArray, List.getElem_cons_succ, List.getElem_cons_zero, List.setIfInBounds_toArray, List.set_cons_succ, List.set_cons_zero]
  clear hS0 hrow2 hrow3 hl3 hall3 hc2 hE1 hE2 hE3 hb2 hb3 hk2 hk3 hheld hparts hlast hfar hJ1 hJ2
  have hs0 : W.heap.size ≤ W3.heap.size := by omega
  clear hs1 hs2 hs3
  gi_wp2
  gi_loopw [22] (fun i wr => ∃ k : Nat, k ≤ np ∧ i = .int .i64 (k : Int) ∧ FEnv K n₁ Ba Bb (.slice A n c) (.slice A' m c') A A' Av ls bs vs ps g np wr ∧ J (List.range ((ps.take k).flatten).length) wr ∧ W.heap.size ≤ wr.heap.size) (fun i _ => np - (intOf i).toNat)
  case atStart => exact ⟨0, Nat.zero_le _, rfl, hFE, hJ3, hs0⟩
  case round =>
    clear hFE hJ3 hs0
    obtain ⟨k, hk, rfl, hFE, hJ, hs0⟩ := hrel
    by_cases hlt : k < np
    · have hkp : k < ps.length := by rw [HNP.out]; exact hlt
      have hkv : k < vs.length := by rw [hFE.hp.1]; exact hkp
      obtain ⟨Ap, cp, hpe, hpc, hpr⟩ := hFE.hp.at_ hkv hkp
      obtain ⟨av, rfl, _, hcv1⟩ := hFE.hv.rd.at_ hkv
      rw [hpe] at hcv1
      clear hpe
      have hplen := hle _ (List.getElem_mem hkp)
      have hos := off_succ hkp
      have hol := off_le ps (k + 1)
      rw [HF.out, HN.out] at hol
      obtain ⟨u, hcu, Au, cu, rfl, hRu⟩ := hFE.far.at_ (k := k + 1) hlt
      rw [rowV_length, HM.out] at hcu
      generalize hpk : ps[k] = p at *
      obtain ⟨pl, hpl⟩ : ∃ pl, p.length = pl := ⟨_, rfl⟩
      rw [hpl] at hplen hos hpc hcv1
      have HPL := Lib.hid hpl; clear hpl
      have HPK := Lib.hid hpk; clear hpk
      generalize hoff : ((ps.take k).flatten).length = off at *
      have HOS := Lib.hid hos; clear hos
      have HOFF := Lib.hid hoff; clear hoff
      have hol' : off + pl ≤ n := by rw [HOS.out] at hol; exact hol
      clear hol
      have hcb := hFE.env.bb.cell
      have hkw : IntKind.i64.wrap ((k : Int) + 1) = (k : Int) + 1 := IntWalk.i64_in _ (by omega)
      gi_wp2
      have i0 : (0 : Int) ≤ (k : Int) + 1 := by omega
      have i1 : ((k : Int) + 1).toNat = k + 1 := by omega
      have i2 : (k : Int) + 1 < (np : Int) + 1 := by omega
      refine wpIn_wide.2 ?_
      refine wp_region_held_drew (S := fun X : World => X.cell? ⟨Bb, 0, none⟩ = some (.slice A' m c') ∧ X.cell? ⟨g, k + 1, none⟩ = some (.slice Au (m + 1) cu)) (by kernel_rfl) ⟨hcb, hcu⟩ (fun hS0 => ?_)
      refine wpAnyH_take (i := 0) (v := ?_) rfl (by kernel_rfl) (by kernel_rfl) (by kernel_rfl) (fun _ _ _ h => h) (Or.inl ⟨by rfl, ?_⟩) hS0 ?_
      rotate_left
      · intro X hX
        obtain ⟨hX1, hX2⟩ := hX
        go_simp
        try with_reducible rfl
      simp only [Act.put]
      refine wpAnyH_take (i := 2) (v := ?_) rfl (by kernel_rfl) (by kernel_rfl) (by kernel_rfl) (fun _ _ _ h => h) (Or.inl ⟨by rfl, ?_⟩) hS0 ?_
      rotate_left
      · intro X hX
        obtain ⟨hX1, hX2⟩ := hX
        go_simp
        try with_reducible rfl
      simp only [Act.put]
      refine wpAnyH_take (i := 3) (v := ?_) rfl (by kernel_rfl) (by kernel_rfl) (by kernel_rfl) (fun _ _ _ h => h) (Or.inl ⟨by rfl, ?_⟩) hS0 ?_
      rotate_left
      · intro X hX
        obtain ⟨hX1, hX2⟩ := hX
        go_simp
        try with_reducible rfl
      simp only [Act.put]
      refine wpAnyH_take (i := 4) (v := ?_) rfl (by kernel_rfl) (by kernel_rfl) (by kernel_rfl) (fun _ _ _ h => h) (Or.inl ⟨by rfl, ?_⟩) hS0 ?_
      rotate_left
      · intro X hX
        obtain ⟨hX1, hX2⟩ := hX
        go_simp
        try with_reducible rfl
      simp only [Act.put]
      refine wpAnyH_take (i := 5) (v := ?_) rfl (by kernel_rfl) (by kernel_rfl) (by kernel_rfl) (fun _ _ _ h => h) (Or.inl ⟨by rfl, ?_⟩) hS0 ?_
      rotate_left
      · intro X hX
        obtain ⟨hX1, hX2⟩ := hX
        go_simp
        try with_reducible rfl
      simp only [Act.put]
      refine wpAnyH_take (i := 6) (v := ?_) rfl (by kernel_rfl) (by kernel_rfl) (by kernel_rfl) (fun _ _ _ h => h) (Or.inl ⟨by rfl, ?_⟩) hS0 ?_
      rotate_left
      · intro X hX
        obtain ⟨hX1, hX2⟩ := hX
        go_simp
        try with_reducible rfl
      simp only [Act.put]
      refine wpAnyH_take (i := 7) (v := ?_) rfl (by kernel_rfl) (by kernel_rfl) (by kernel_rfl) (fun _ _ _ h => h) (Or.inl ⟨by rfl, ?_⟩) hS0 ?_
      rotate_left
      · intro X hX
        obtain ⟨hX1, hX2⟩ := hX
        go_simp
        try with_reducible rfl
      simp only [Act.put]
      clear i0 i1 i2 hkw
      refine wpAnyH_ready (rs := [1]) (by kernel_rfl) (by simp) ?_
      refine AllReadyH.cons rfl (fun K' hK' => ?_) AllReadyH.nil
      go_simp
      refine (Cut Ap cp pl 1 n₁ p wr.drew HPL.out hpc hplen (Nat.le_refl _) (by omega) hFE.env.lo hpr).mono ?_
      rintro e W1 ⟨v, vs1, rfl, hrow1, hparts1, hb1⟩
      obtain ⟨Av1, cv1, rfl, hcv1', hheld1⟩ := held_own' (K := K) hrow1 (fun k h => (HKn.out k (Nat.le_trans hs0 h)).2.2)
      have hk1 : KpK n₁ K wr W1 := kpK_drew hFE.env.lo hb1
      have hFE1 := hFE.kp hKa hKb hk1
      have hs1 : W.heap.size ≤ W1.heap.size := Nat.le_trans hs0 hk1.1.size
      have hJ1 : J (List.range off) W1 := hJn _ _ _ hJ (grown_of_drew hb1)
      have hRu1 := hRu.kp hk1
      have hone : ch 1 p 0 = p.map fun x => [x] := by rw [ch_one p pl 0 (by rw [HPL.out]; omega)]; rfl
      rw [hone] at hparts1 ⊢
      have hol1 : (p.map fun x => [x]).length = pl := by rw [List.length_map, HPL.out]
      rw [hol1]
      have hcu1 : W1.cell? ⟨g, k + 1, none⟩ = some (.slice Au (m + 1) cu) := by
        obtain ⟨lt, _⟩ : (⟨g, k + 1, none⟩ : Addr).block < wr.heap.size ∧ True := ⟨World.block_lt_of_cell? wr _ hcu, trivial⟩
        exact (hb1.cell (p := ⟨g, k + 1, none⟩) lt).trans hcu
      refine hK'.out _ _ ⟨hFE1.env.bb.cell, hcu1⟩ (fun hS0 => ?_)
      clear hK' K' hrow1 hb1 hone hcu hcv1 hcb hFE hk1 hJ hRu hpr hcv1' hs0
      refine wpAnyH_ready (rs := [8]) (by kernel_rfl) (by simp) ?_
      refine AllReadyH.cons rfl (fun K' hK' => ?_) AllReadyH.nil
      go_simp
      refine (table Av1 A' Au cv1 c' cu pl m W1.heap.size vs1 (p.map fun x => [x]) ((ps.drop (k + 1)).flatten) bs W1 hol1 HM.out hplen hlm (fun q hq => by obtain ⟨x, _, rfl⟩ := List.mem_map.1 hq; simp) (Nat.le_refl _) hheld1.rd (hparts1.up hFE1.env.lo) (hFE1.env.rb.up hFE1.env.lo) hRu1.rd).mono ?_
      rintro e W2 ⟨g2, cap2, tv2, rfl, hrow2, hl2, hall2, hb2⟩
      have hk2 : KpK n₁ K W1 W2 := kpK_new hFE1.env.lo hb2
      have hFE2 := hFE1.kp hKa hKb hk2
      have hs2 : W.heap.size ≤ W2.heap.size := Nat.le_trans hs1 hk2.1.size
      have hJ2 : J (List.range off) W2 := hJn _ _ _ hJ1 (grown_of_below hb2 none)
      have hnear0 := tabOk_of_end (K := K) HM.out hol1 hrow2 hl2 hall2 ⟨_, _, by rw [rowV_length, HM.out], hRu1.kp hk2⟩ (fun k h => ⟨(HKn.out k (by omega)).1, (HKn.out k (by omega)).2.1⟩)
      have hnear : TabOk K W2 g2 pl (fun i => rowV (ls.drop (off + i)) bs) := hnear0.congr (fun i hi => by
        have := near_eq (i := i) hkp (by rw [HPK.out, HPL.out]; exact hi)
        rw [HPK.out, HF.out, HOFF.out] at this
        show rowV _ bs = rowV _ bs
        rw [this])
      have hcu2 : W2.cell? ⟨g, k + 1, none⟩ = some (.slice Au (m + 1) cu) := (hb2.cell (p := ⟨g, k + 1, none⟩) (World.block_lt_of_cell? W1 _ hcu1)).trans hcu1
      refine hK'.out _ _ ⟨hFE2.env.bb.cell, hcu2⟩ (fun hS0 => ?_)
      clear hK' K' hrow2 hl2 hall2 hnear0 hcu1 hcu2 hRu1 hFE1 hJ1 hk2 hb2 hs1 hheld1 hparts1
      refine wpAnyH_take (i := 9) (v := ?_) rfl (by kernel_rfl) (by kernel_rfl) (by kernel_rfl) (fun _ _ _ h => h) (Or.inl ⟨by rfl, ?_⟩) hS0 ?_
      rotate_left
      · intro X hX
        obtain ⟨hX1, hX2⟩ := hX
        go_simp
        try with_reducible rfl
      simp only [Act.put]
      refine wpAnyH_done (by kernel_rfl) ?_ _
      simp only [List.getElem_toArray, List.getElem_cons_succ, List.getElem_cons_zero, List.setIfInBounds_toArray, List.set_cons_succ, List.set_cons_zero]
      clear hS0
      gi_wp2
      gi_loopw [38] (fun i wr => ∃ j : Nat, j ≤ pl ∧ i = .int .i64 (j : Int) ∧ FEnv K n₁ Ba Bb (.slice A n c) (.slice A' m c') A A' (some av) ls bs vs ps g np wr ∧ TabOk K wr g2 pl (fun i => rowV (ls.drop (off + i)) bs) ∧ J (List.range (off + j)) wr ∧ W.heap.size ≤ wr.heap.size) (fun i _ => pl - (intOf i).toNat)
      case atStart => exact ⟨0, Nat.zero_le _, rfl, hFE2, hnear, hJ2, hs2⟩
      case round =>
        clear hFE2 hnear hJ2 hs2
        obtain ⟨j, hj, rfl, hFE, hnear, hJ, hs0⟩ := hrel
        by_cases hjl : j < pl
        · obtain ⟨u1, hc1, B1, d1, rfl, hR1⟩ := hnear.at_ (k := j) hj
          obtain ⟨u2, hc2, B2, d2, rfl, hR2⟩ := hnear.at_ (k := j + 1) hjl
          obtain ⟨post, hsplit⟩ := range_split (n := n) (i := off + j) (by omega)
          have HSP := Lib.hid hsplit; clear hsplit
          have hEr : ERow K ls bs (off + j) #[.slice B1 (rowV (ls.drop (off + j)) bs).length d1, .slice B2 (rowV (ls.drop (off + (j + 1))) bs).length d2] wr.drew := ⟨_, _, rfl, ⟨_, _, rfl, hR1⟩, ⟨_, _, rfl, hR2⟩⟩
          rw [rowV_length, HM.out] at hc1 hc2
          rw [rowV_length, rowV_length, HM.out] at hEr
          obtain ⟨fn, tmps, assign, body, hy, hRR⟩ := hY _ _ post _ wr.drew HSP.out (hJn _ _ _ hJ (grown_of_drew (Below.refl _ _))) hEr
          have hjw : IntKind.i64.wrap ((j : Int) + 1) = (j : Int) + 1 := IntWalk.i64_in _ (by omega)
          gi_wp2
          have i0 : (0 : Int) ≤ (j : Int) + 1 := by omega
          have i1 : ((j : Int) + 1).toNat = j + 1 := by omega
          have i2 : (j : Int) + 1 < (pl : Int) + 1 := by omega
          have i3 : (j : Int) < (pl : Int) + 1 := by omega
          refine still_in 10 (fun _ => trivial) (fun h => by cases h) (fun _ _ _ _ h => callsIn_wide.2 h) (by kernel_rfl) (by kernel_rfl) (by kernel_rfl) ?_
          simp only [List.take_succ_cons, List.take_zero, List.drop_succ_cons, List.drop_zero]
          repeat still_step
          refine wpStill_nil ?_
          clear i0 i1 i2 i3 hjw
          change wpListIn _ _ _ _ _ _ _ wr.drew
          gi_wp2
          refine ⟨(fun h => by cases h), ?_⟩
          refine hRR.mono ?_
          rintro e W5 (⟨rfl, hJ5, hk5⟩ | ⟨rfl, hJx5⟩)
          · have hk6 : KpK n₁ K wr W5 := kpK_t (kpK_new hFE.env.lo (Below.refl _ _).drew) hk5
            have hFE6 := hFE.kp hKa hKb hk6
            have hnear6 := hnear.kp hk6
            have hs6 : W.heap.size ≤ W5.heap.size := Nat.le_trans hs0 hk6.1.size
            gi_wp2
            go_roundw
            case rel => exact ⟨j + 1, by omega, by go_num, hFE6, hnear6, by rw [← Nat.add_assoc, List.range_succ]; exact hJ5, hs6⟩
            case measure => simp [intOf]; omega
          · gi_wp2
            refine bodyPost_ret (results_none rfl _ _ _) rfl ?_
            exact ⟨⟨_, rfl⟩, .inr ⟨_, post, by rw [HSP.out]; simp, hJx5⟩⟩
        · obtain rfl : j = pl := by omega
          gi_wp2
          go_roundw
          case rel => exact ⟨k + 1, by omega, by go_num, hFE, by rw [HOS.out]; exact hJ, hs0⟩
          case measure => simp [intOf]; omega
    · obtain rfl : k = np := by omega
      gi_wp2
      go_end0
      refine ⟨⟨_, rfl⟩, .inl ?_⟩
      rw [List.take_of_length_le (by rw [HNP.out]; exact Nat.le_refl _), HF.out, HN.out] at hJ
      exact hJ

theorem rows_gives (d n₁ Ba Bb n m c c' : Nat) (K : Nat → TypeId → Prop) (A A' : Option Addr) (ls bs : List (List UInt8)) (hn : ls.length = n) (hm : bs.length = m) (hnc : n ≤ c) (hln : n ≤ 1000) (hlm : m ≤ 1000) (w : World)
    (hKa : K Ba 22) (hKb : K Bb 22) (hKn : ∀ k, w.heap.size + 2 ≤ k → K k 74 ∧ K k 3 ∧ K k 22)
    (hba : Boxed w Ba 22 (.slice A n c)) (hbb : Boxed w Bb 22 (.slice A' m c')) (hlo : n₁ ≤ w.heap.size) (hR : RdS w n₁ A ls) (hR' : RdS w n₁ A' bs) :
    GivesE Try.prog Plain d 51 #[.pointer (some ⟨Ba, 0, none⟩), .pointer (some ⟨Bb, 0, none⟩)] (ERow K ls bs) (List.range n) (KpK n₁ K) w := fun J Jx W hW hs hJ _ hY h0 =>
  rows1_in d _ n₁ Ba Bb n m c c' K A A' ls bs hn hm hnc hln hlm J Jx W hKa hKb (by rw [hs]; exact hKn) (fun s W W' hs hg => hJ.new hs hg) (fun pre x post vals W1 h1 h2 h3 => yield_less (hY pre x post vals W1 h1 h2 h3))
    ⟨(hW.block Ba hba.lt).trans hba, (hW.block Bb hbb.lt).trans hbb, hR.below (hW.mono hlo), hR'.below (hW.mono hlo), by omega⟩ h0

end Lc
end Go.Proofs.Ytkpgkbllcdpobaa

namespace Go.Proofs.Ytkpgkbllcdpobaa
open Go.RowKit Go.Shelf
set_option linter.unusedVariables false
namespace Lc
open Tx Rg
attribute [local go_sem] Oper.semAt_some

/-- The iterator turns what is no cells, and boxes of numbers. -/
def FreeI (o : Obj) : Prop := o.isCells = false ∨ ∃ v, o = .cells #[v] 3 (0, 0)
/-- What a round that is handed a pair keeps: all cells but those of pairs and of lists of pairs; and whatever else is new. -/
def KpP (n₁ B : Nat) (X Y : World) : Prop := Below n₁ X Y ∧ (∀ (k : Nat) (c : Array Value) (t : TypeId) (f : Nat × Nat), X.heap[k]? = some (Obj.cells c t f) → t ≠ 60 → t ≠ 58 → Y.heap[k]? = some (Obj.cells c t f)) ∧ KeepsFrom B X Y
theorem kpP_t {n₁ B : Nat} {X Y Z : World} (h : KpP n₁ B X Y) (k : KpP n₁ B Y Z) : KpP n₁ B X Z := ⟨h.1.trans k.1, fun i c t f h1 h2 h3 => k.2.1 i c t f (h.2.1 i c t f h1 h2 h3) h2 h3, h.2.2.trans k.2.2⟩
theorem kpP_b {n₁ B l : Nat} (hn : n₁ ≤ l) (hl : l < B) (W : World) (o o' : Obj) (h : W.heap[l]? = some o) (hc : o.isCells = false) : KpP n₁ B W (W.putObj l o') :=
  ⟨(kpK_b (K := fun _ _ => True) hn W o o' h hc).1, fun k c t f h1 _ _ => (kpK_b (K := fun _ _ => True) hn W o o' h hc).2 k c t f h1 trivial, ⟨by simp, fun k o1 hk h1 _ => (World.putObj_heap_other (by omega)).trans h1⟩⟩

/-- All cells but those of pairs, and two boxes. -/
def KI (Bi Bj : Nat) (k : Nat) (t : TypeId) : Prop := t ≠ 60 ∧ t ≠ 58 ∧ k ≠ Bi ∧ k ≠ Bj
theorem kpI_of_P {n₁ B Bi Bj : Nat} {X Y : World} (h : KpP n₁ B X Y) : KpK n₁ (KI Bi Bj) X Y := ⟨h.1, fun k c t f h1 h2 => h.2.1 k c t f h1 h2.1 h2.2.1⟩
theorem kpK_grown {n₁ b : Nat} {K : Nat → TypeId → Prop} {W W' : World} (hg : W.grownBy W' (some b)) (hn : n₁ ≤ b) (hs : n₁ ≤ W.heap.size) (hK : ∀ t, ¬ K b t) : KpK n₁ K W W' :=
  ⟨(Below.refl _ _).grown hg hs (fun k e => by cases e; exact hn), fun k c t f h1 h2 => by
    by_cases e : k = b
    · subst e; exact (hK t h2).elim
    · exact (hg.block k (Array.getElem?_eq_some_iff.1 h1).1 (by simpa using e)).trans h1⟩

theorem held_ab {K : Nat → TypeId → Prop} {A : Option Addr} {xs : List Value} {B : Nat} {β : Type} : Ab (β := β) Plain B (fun _ W => Held K W A xs) := fun s W W' row hs hg hr => by
  rcases hs with h | ⟨a, c, t, f, h1, h2, h3, h4⟩
  · exact .inl h
  · have h5 : W'.heap[a.block]? = W.heap[a.block]? := hg.block _ (Array.getElem?_eq_some_iff.1 h2).1 (fun e => by
      obtain ⟨_, o, ho, hf⟩ := hr _ e.symm
      rw [h2] at ho; cases ho; cases hf)
    exact .inr ⟨a, c, t, f, h1, h5.trans h2, h3, fun j u hu => (World.cell?_of_block (w := W) (a := a.add j) (by rw [add_block]; exact h5)).trans (h4 j u hu)⟩
theorem rowH_ab {K : Nat → TypeId → Prop} {u : Value} {xs : List Value} {B : Nat} {β : Type} : Ab (β := β) Plain B (fun _ W => RowH K W u xs) := ab_ex fun A => ab_ex fun c => Ab.and (ab_pure _ _ _) held_ab

theorem pairs_in (n : Nat) (A A' : Option Addr) (l c l' c' : Nat) (w : World) :
    CallsIn Fence.wide n Try.prog 45 #[.slice A l c, .slice A' l' c'] w fun e w' => e = .returned (.func (.func 48) #[] #[.pointer (some ⟨w.heap.size, 0, none⟩), .pointer (some ⟨w.heap.size + 1, 0, none⟩)]) ∧ w' = (w.alloc (.cells #[.slice A l c] 22)).alloc (.cells #[.slice A' l' c'] 22) := by
  refine callsIn_of_wp Try.func45 rfl trivial ?_ rfl
  simp only [Try.ntmps45, List.size_toArray, List.length_cons, List.length_nil, Nat.reduceAdd, Nat.reduceSub, Array.replicate_succ, Array.replicate_zero, List.push_toArray, List.append_toArray, List.nil_append, List.cons_append]
  gi_wp2
  go_ret
  exact ⟨rfl, rfl⟩

/-- The value of a pair. -/
abbrev pairV (p : Nat × Nat) : Value := .agg #[.int .i64 (p.1 : Int), .int .i64 (p.2 : Int)]

/-- What stays through the rounds of pairs: z is the heap's size where its own boxes begin. -/
structure PBox (z Ba Bb l : Nat) (va vb : Value) (W : World) : Prop where
  ba : Boxed W Ba 22 va
  bb : Boxed W Bb 22 vb
  y : Boxed W z 70 (.func (.yield l) #[] #[])

/-- Between two rounds of pairs: i places of a are over, and j of b; what has been told, and the rest, are all pairs. -/
def PInv (n₁ z Ba Bb l m : Nat) (va vb : Value) (A A' : Option Addr) (ls bs : List (List UInt8)) (J : List (Nat × Nat) → World → Prop) (pre : List Nat) (W : World) : Prop :=
  (PBox z Ba Bb l va vb W ∧ Boxed W (z + 1) 3 (.int .i64 (pre.length : Int))) ∧
    (∃ j dn, (j ≤ m ∧ pairs ls bs = dn ++ rest ls bs pre.length j) ∧ Boxed W (z + 1 + 1) 3 (.int .i64 (j : Int)) ∧ J dn W) ∧ (RdS W n₁ A ls ∧ RdS W n₁ A' bs) ∧ n₁ ≤ W.heap.size
/-- A round has left. -/
def PLeft (full : List (Nat × Nat)) (J Jx : List (Nat × Nat) → World → Prop) (c : Code) (_ : List Nat) (W : World) : Prop :=
  c = .ret ∧ (J full W ∨ ∃ p q, full = p ++ q ∧ Jx p W)

theorem rd_ab {B n₁ : Nat} {β : Type} {A : Option Addr} {xs : List Value} (hB : n₁ ≤ B) : Ab (β := β) Plain B (fun _ W => Rd W n₁ A xs ∧ n₁ ≤ W.heap.size) := fun s W W' row hs hg hr =>
  ⟨hs.1.below ((Below.refl _ _).grown hg hs.2 (fun k e => by have := (hr k e).1; omega)), Nat.le_trans hs.2 hg.size⟩

theorem pInv_ab {n₁ z Ba Bb l m B B' : Nat} {va vb : Value} {A A' : Option Addr} {ls bs : List (List UInt8)} {J : List (Nat × Nat) → World → Prop} (hJ : Ab FreeI B' J) (hB : B' ≤ B) (hn : n₁ ≤ B) : Ab Plain B (PInv n₁ z Ba Bb l m va vb A A' ls bs J) := by
  have hJ' : ∀ dn, Ab Plain B (fun (_ : List Nat) W => J dn W) := fun dn s W W' row hs hg hr => hJ dn W W' row hs hg (fun r e => ⟨by have := (hr r e).1; omega, let ⟨o, h1, h2⟩ := (hr r e).2; ⟨o, h1, .inl h2⟩⟩)
  intro s W W' row hs hg hr
  obtain ⟨⟨⟨h1, h2, h3⟩, h4⟩, ⟨j, dn, h5, h6, h7⟩, ⟨h8, h9⟩, h10⟩ := hs
  have bx : ∀ {b : Nat} {t : TypeId} {v : Value}, Boxed W b t v → Boxed W' b t v := fun h => ab_boxed (Free := Plain) (B := B) (fun _ : Unit => _) (fun _ => plain_cells _ _ _) () W W' row h hg hr
  have r1 := rd_ab (β := Unit) hn () W W' row ⟨h8, h10⟩ hg hr
  have r2 := rd_ab (β := Unit) hn () W W' row ⟨h9, h10⟩ hg hr
  exact ⟨⟨⟨bx h1, bx h2, bx h3⟩, bx h4⟩, ⟨j, dn, h5, bx h6, hJ' dn s W W' row h7 hg hr⟩, ⟨r1.1, r2.1⟩, r1.2⟩
theorem pLeft_ab {B B' : Nat} {full : List (Nat × Nat)} {J Jx : List (Nat × Nat) → World → Prop} (hJ : Ab FreeI B' J) (hJx : Ab FreeI B' Jx) (hB : B' ≤ B) (c : Code) : Ab Plain B (PLeft full J Jx c) := fun s W W' row hs hg hr => by
  have hr' : ∀ r, row = some r → B' ≤ r ∧ ∃ o : Obj, W.heap[r]? = some o ∧ FreeI o := fun r e => ⟨by have := (hr r e).1; omega, let ⟨o, h1, h2⟩ := (hr r e).2; ⟨o, h1, .inl h2⟩⟩
  refine ⟨hs.1, ?_⟩
  rcases hs.2 with h | ⟨p, q, h1, h2⟩
  · exact .inl (hJ _ W W' row h hg hr')
  · exact .inr ⟨p, q, h1, hJx _ W W' row h2 hg hr'⟩

theorem range_at {n i : Nat} {pre post : List Nat} (h : List.range n = pre ++ i :: post) : i = pre.length ∧ i < n := by
  have hl : n = pre.length + (post.length + 1) := by have := congrArg List.length h; simpa using this
  have hx : (List.range n)[pre.length]? = some i := by rw [h]; simp
  rw [List.getElem?_range (by omega)] at hx
  exact ⟨(Option.some.inj hx).symm, by have := Option.some.inj hx; omega⟩
/-- The number in a box. -/
def jOf (W : World) (b : Nat) : Nat := match W.cell? ⟨b, 0, none⟩ with | some (.int _ q) => q.toNat | _ => 0
theorem jOf_eq {W : World} {b : Nat} {t : TypeId} {j : Nat} (h : Boxed W b t (.int .i64 (j : Int))) : jOf W b = j := by unfold jOf; rw [h.cell]; simp
theorem pbox_kp {n₁ z Ba Bb l : Nat} {va vb : Value} {X W' : World} (h : PBox z Ba Bb l va vb X) (ha : Ba < z) (hb : Bb < z) (hk : KpK n₁ (KI (z + 1) (z + 1 + 1)) X W') : PBox z Ba Bb l va vb W' :=
  ⟨box_kp h.ba ⟨by decide, by decide, by omega, by omega⟩ hk, box_kp h.bb ⟨by decide, by decide, by omega, by omega⟩ hk, box_kp h.y ⟨by decide, by decide, by omega, by omega⟩ hk⟩
theorem kpK_drewN {n₁ : Nat} {K : Nat → TypeId → Prop} (W : World) (d : Nat) : KpK n₁ K W (W.drewN d) := ⟨below_drewN (Below.refl _ _) d, fun _ _ _ _ h _ => h⟩
theorem keepsFrom_drewN (B : Nat) (W : World) (d : Nat) : KeepsFrom B W (W.drewN d) := ⟨Nat.le_refl _, fun _ _ _ h _ => h⟩

theorem round_depth {P : Program} {a b l l' f : Nat} {t : Array Value} {as' bd : Code} {w : World} {R : Ending → World → Prop} (h : RoundIn Fence.wide a P l f t as' bd w R) : RoundIn (Fence.wide.inRound l') b P l f t as' bd w R := ⟨trivial, fun c cs _ => h.2 c cs (room_wide _)⟩
/-- A store into one of the two boxes. -/
theorem pset {n₁ z b B0 : Nat} {v : Value} {J : List (Nat × Nat) → World → Prop} {dn : List (Nat × Nat)} {Y : World} (hJ : Ab FreeI B0 J) (h : Boxed Y b 3 v) (hb : b = z + 1 ∨ b = z + 1 + 1) (hz : B0 ≤ z) (hn : n₁ ≤ z) (u : Value) (hd : J dn Y) :
    KpK n₁ (KI (z + 1) (z + 1 + 1)) Y (Y.setCell ⟨b, 0, none⟩ u) ∧ (∀ B, KeepsFrom B Y (Y.setCell ⟨b, 0, none⟩ u)) ∧ Boxed (Y.setCell ⟨b, 0, none⟩ u) b 3 u ∧ J dn (Y.setCell ⟨b, 0, none⟩ u) := by
  have hg := grownBy_setCell' Y b u
  refine ⟨kpK_grown hg (by omega) (by have := h.lt; omega) (fun t hk => ?_), fun B => (KeepsOthers.setCell _ _ _).from B, h.set u, hJ dn Y _ _ hd hg (fun r e => by cases e; exact ⟨by omega, _, h, .inr ⟨_, rfl⟩⟩)⟩
  rcases hb with hb | hb
  · exact hk.2.2.1 hb
  · exact hk.2.2.2 hb

theorem p_close {n₁ z Ba Bb l m i j : Nat} {va vb : Value} {A A' : Option Addr} {ls bs : List (List UInt8)} {J : List (Nat × Nat) → World → Prop} {pre : List Nat} {dn : List (Nat × Nat)} {X W' : World} (hbx : PBox z Ba Bb l va vb X) (ha : Ba < z) (hb : Bb < z) (hkp : KpK n₁ (KI (z + 1) (z + 1 + 1)) X W')
    (hra : RdS X n₁ A ls) (hrb : RdS X n₁ A' bs) (hlo : n₁ ≤ X.heap.size) (hi : i = pre.length) (hbi : Boxed W' (z + 1) 3 (.int .i64 ((i : Int) + 1))) (hbj : Boxed W' (z + 1 + 1) 3 (.int .i64 (j : Int))) (hj : j ≤ m) (hJ : J dn W') (hp : pairs ls bs = dn ++ rest ls bs (i + 1) j) :
    PInv n₁ z Ba Bb l m va vb A A' ls bs J (pre ++ [i]) W' := by
  have e : (pre ++ [i]).length = i + 1 := by simp [hi]
  unfold PInv
  rw [e]
  exact ⟨⟨pbox_kp hbx ha hb hkp, by simpa using hbi⟩, ⟨j, dn, ⟨hj, hp⟩, hbj, hJ⟩, ⟨hra.below hkp.1, hrb.below hkp.1⟩, Nat.le_trans hlo hkp.1.size⟩

theorem boxes5 (w : World) (v0 v1 v2 v3 v4 : Value) (t0 t1 t2 t3 t4 : TypeId) :
    let w5 := ((((w.alloc (.cells #[v0] t0)).alloc (.cells #[v1] t1)).alloc (.cells #[v2] t2)).alloc (.cells #[v3] t3)).alloc (.cells #[v4] t4)
    Boxed w5 w.heap.size t0 v0 ∧ Boxed w5 (w.heap.size + 1) t1 v1 ∧ Boxed w5 (w.heap.size + 1 + 1) t2 v2 ∧ Boxed w5 (w.heap.size + 1 + 1 + 1) t3 v3 ∧ Boxed w5 (w.heap.size + 1 + 1 + 1 + 1) t4 v4 ∧ w.grownBy w5 none := by
  intro w5
  obtain ⟨h0, h1, h2, h3, hg⟩ := boxes4 w v0 v1 v2 v3 t0 t1 t2 t3
  have b4 := Boxed.new ((((w.alloc (.cells #[v0] t0)).alloc (.cells #[v1] t1)).alloc (.cells #[v2] t2)).alloc (.cells #[v3] t3)) t4 v4
  simp only [World.size_alloc] at b4
  exact ⟨h0.alloc _, h1.alloc _, h2.alloc _, h3.alloc _, b4, grow_trans hg (World.grownBy_alloc _ _ none) (by simp)⟩

set_option maxRecDepth 100000 in
set_option maxHeartbeats 4000000 in
theorem pairs_gives (n₁ Ba Bb n m c c' : Nat) (A A' : Option Addr) (ls bs : List (List UInt8)) (hn : ls.length = n) (hm : bs.length = m) (hnc : n ≤ c) (hln : n ≤ 1000) (hlm : m ≤ 1000) (w : World)
    (hba : Boxed w Ba 22 (.slice A n c)) (hbb : Boxed w Bb 22 (.slice A' m c')) (hlo : n₁ ≤ w.heap.size) (hR : RdS w n₁ A ls) (hR' : RdS w n₁ A' bs) :
    Gives Try.prog FreeI 3 48 #[.pointer (some ⟨Ba, 0, none⟩), .pointer (some ⟨Bb, 0, none⟩)] (fun p => #[pairV p]) (pairs ls bs) (KpP n₁ (w.heap.size + 2)) w := fun J Jx W hW hs hJ hJx hY h0 => by
  have HM := Lib.hid hm; clear hm
  have HN := Lib.hid hn; clear hn
  have hba1 : Boxed W Ba 22 (.slice A n c) := (hW.block Ba hba.lt).trans hba
  have hbb1 : Boxed W Bb 22 (.slice A' m c') := (hW.block Bb hbb.lt).trans hbb
  have hR1 := hR.below (hW.mono hlo)
  have hR1' := hR'.below (hW.mono hlo)
  have hla := hba.lt
  have hlb := hbb.lt
  clear hba hbb hR hR' hW
  have hz : w.heap.size + 2 = W.heap.size := hs.symm
  have hlow : n₁ ≤ W.heap.size := by omega
  have hla' : Ba < W.heap.size := by omega
  have hlb' : Bb < W.heap.size := by omega
  rw [hz] at hJ hJx
  generalize hyl : w.heap.size + 1 = yl at *
  have HY := Lib.hid hY; clear hY
  have HZ := Lib.hid hz; clear hz hyl hs hla hlb hlo
  have hca : ∀ o1 o2 o3 : Obj, (((W.alloc o1).alloc o2).alloc o3).cell? ⟨Ba, 0, none⟩ = some (.slice A n c) := fun o1 o2 o3 => (((hba1.alloc o1).alloc o2).alloc o3).cell
  have hcb : ∀ o1 o2 o3 : Obj, (((W.alloc o1).alloc o2).alloc o3).cell? ⟨Bb, 0, none⟩ = some (.slice A' m c') := fun o1 o2 o3 => (((hbb1.alloc o1).alloc o2).alloc o3).cell
  refine callsIn_of_wp_marks Try.func48 rfl trivial ?_ rfl
  simp only [Try.ntmps48, List.size_toArray, List.length_cons, List.length_nil, Nat.reduceAdd, Nat.reduceSub, Array.replicate_succ, Array.replicate_zero, List.push_toArray, List.append_toArray, List.nil_append, List.cons_append]
  gi_wp2_with fail
  refine ⟨trivial, ?_⟩
  refine (rows_in 2 _ _ _ _ _ _ _).mono ?_
  rintro e w' ⟨rfl, rfl⟩
  clear hca hcb
  gi_wp2
  obtain ⟨hB0, hB1, hB2, hB3, hB4, hg5⟩ := boxes5 W (.func (.yield yl) #[] #[]) (.int .i64 0) (.int .i64 0) (.slice A n c) (.slice A' m c') 70 3 3 22 22
  have hb5 := (Below.refl n₁ W).grown hg5 hlow (by simp)
  have hsz5 : (((((W.alloc (.cells #[.func (.yield yl) #[] #[]] 70)).alloc (.cells #[.int .i64 0] 3)).alloc (.cells #[.int .i64 0] 3)).alloc (.cells #[.slice A n c] 22)).alloc (.cells #[.slice A' m c'] 22)).heap.size = W.heap.size + 5 := by simp
  refine range_law (n := 3) (gf := 51) (lb := #[.pointer (some ⟨W.heap.size + 1 + 1 + 1, 0, none⟩), .pointer (some ⟨W.heap.size + 1 + 1 + 1 + 1, 0, none⟩)]) rfl (enters_of Try.func51 (by kernel_rfl) rfl) (Free := Plain) (fun _ h => h)
    (rows_gives 2 n₁ (W.heap.size + 1 + 1 + 1) (W.heap.size + 1 + 1 + 1 + 1) n m c c' (KI (W.heap.size + 1) (W.heap.size + 1 + 1)) A A' ls bs HN.out HM.out hnc hln hlm _
      ⟨by decide, by decide, by omega, by omega⟩ ⟨by decide, by decide, by omega, by omega⟩ (fun k hk => by rw [hsz5] at hk; exact ⟨⟨by decide, by decide, by omega, by omega⟩, ⟨by decide, by decide, by omega, by omega⟩, ⟨by decide, by decide, by omega, by omega⟩⟩) hB3 hB4 (by rw [hsz5]; omega) (hR1.below hb5) (hR1'.below hb5))
    kpK_t (kpK_b (by rw [hsz5]; omega)) (fun x vals W h => by obtain ⟨v1, v2, rfl, _⟩ := h; rfl)
    (PInv n₁ W.heap.size Ba Bb yl m (.slice A n c) (.slice A' m c') A A' ls bs J) (PLeft (pairs ls bs) J Jx) (pInv_ab hJ (by rw [hsz5]; omega) (by rw [hsz5]; omega)) (pLeft_ab hJ hJx (by rw [hsz5]; omega)) ?h0
    (fun x a' X => ∃ v1 v2, a' = { tmps := #[.func (.yield yl) #[] #[], .pointer (some ⟨Ba, 0, none⟩), .pointer (some ⟨Bb, 0, none⟩), .pointer (some ⟨W.heap.size, 0, none⟩), .pointer (some ⟨W.heap.size + 1, 0, none⟩), .pointer (some ⟨W.heap.size + 1 + 1, 0, none⟩), v1, v2, .slice A n c, .slice A' m c', .func (.func 51) #[] #[.pointer (some ⟨W.heap.size + 1 + 1 + 1, 0, none⟩), .pointer (some ⟨W.heap.size + 1 + 1 + 1 + 1, 0, none⟩)], v1, v2, undef, undef, undef, undef, undef, undef, undef, undef, undef, undef, undef, undef, undef, undef, undef, undef, undef, undef, undef, undef, undef, undef, undef, undef, undef, undef, undef, undef, undef, undef, undef, undef, undef, undef, undef, undef, undef, undef, undef, undef, undef, undef, undef, undef, undef, undef, undef, undef, undef, undef, undef, undef], defers := [] } ∧ RowH (KI (W.heap.size + 1) (W.heap.size + 1 + 1)) X v1 (rowV (ls.drop x) bs) ∧ RowH (KI (W.heap.size + 1) (W.heap.size + 1 + 1)) X v2 (rowV (ls.drop (x + 1)) bs))
    (fun x a' => ab_ex fun v1 => ab_ex fun v2 => Ab.and (ab_pure _ _ _) (Ab.and rowH_ab rowH_ab)) ?assign ?body ?done ?stop
  case h0 =>
    have kb : ∀ {b : Nat} {t : TypeId} {v : Value}, Boxed W b t v → Boxed _ b t v := fun h => h.kept hg5 (by simp)
    refine ⟨⟨⟨kb hba1, kb hbb1, hB0⟩, hB1⟩, ⟨0, [], ⟨Nat.zero_le _, ?_⟩, hB2, hJ.new h0 hg5⟩, ⟨hR1.below hb5, hR1'.below hb5⟩, by rw [hsz5]; omega⟩
    rw [List.nil_append, List.length_nil, rest_zero]
  case assign =>
    rintro l pre x vals X K hi ⟨v1, v2, rfl, h1, h2⟩ hK
    gi_wp2
    exact hK _ _ (KeepsFrom.refl _ _) (kpK_r _) hi ⟨v1, v2, rfl, h1, h2⟩
  case body =>
    rintro l pre post i a' X hfull hI ⟨v1, v2, rfl, ⟨Ah, ch, rfl, hr1⟩, ⟨An, cn, rfl, hr2⟩⟩
    obtain ⟨hi, hin⟩ := range_at hfull
    clear hfull
    simp only [rowV_length, HM.out]
    obtain ⟨⟨hbx, hI4⟩, ⟨j0, dn, ⟨hj0, hpairs⟩, hJb, hJd⟩, ⟨hra, hrb⟩, hlo⟩ := hI
    rw [← hi] at hI4 hpairs
    have HIP := Lib.hid hi; clear hi
    have HPR := Lib.hid hpairs; clear hpairs
    have hil : i < ls.length := by rw [HN.out]; exact hin
    obtain ⟨aa, rfl, hca⟩ := hra.at' hil
    obtain ⟨ah, rfl, _, _⟩ := hr1.rd.at_ (k := 0) (by rw [rowV_length]; omega)
    obtain ⟨an, rfl, _, _⟩ := hr2.rd.at_ (k := 0) (by rw [rowV_length]; omega)
    gi_wp2
    gi_loopw [13] (fun _ wr => ∃ j : Nat, j ≤ m ∧ Boxed wr (W.heap.size + 1 + 1) 3 (.int .i64 (j : Int)) ∧ X.grownBy wr (some (W.heap.size + 1 + 1)) ∧ pairs ls bs = dn ++ rest ls bs i j) (fun _ wr => m - jOf wr (W.heap.size + 1 + 1))
    case atStart => exact ⟨j0, hj0, hJb, World.grownBy.refl _ _, HPR.out⟩
    case round =>
      obtain ⟨j, hj, hbj, hg, hpj⟩ := hrel
      clear HPR
      have HPJ := Lib.hid hpj; clear hpj
      have hkp : KpK n₁ (KI (W.heap.size + 1) (W.heap.size + 1 + 1)) X wr := kpK_grown hg (by omega) hlo (fun t h => h.2.2.2 rfl)
      have hkf : ∀ B, KeepsFrom B X wr := fun B => (KeepsOthers.of_grownBy hg (fun k o e ho => by cases e; rw [show X.heap[W.heap.size + 1 + 1]? = _ from hJb] at ho; cases ho; rfl)).from B
      have hbw := pbox_kp hbx hla' hlb' hkp
      have hiw := hI4.kept hg (by simp)
      have hJw : J dn wr := hJ dn X wr _ hJd hg (fun r e => by cases e; exact ⟨by omega, _, hJb, .inr ⟨_, rfl⟩⟩)
      have hrbw : RdS wr n₁ A' bs := hrb.below hkp.1
      have hraw : RdS wr n₁ (some aa) ls := hra.below hkp.1
      have hlow' : n₁ ≤ wr.heap.size := Nat.le_trans hlo hkp.1.size
      have hcaw := (hkp.1.cell (p := aa.add i) (by obtain ⟨a1, e1, h1, _⟩ := hra.at_ (k := i) (by simpa using hil); injection e1 with e1; subst e1; rw [add_block]; exact h1)).trans hca
      have c1 := hbw.ba.cell
      have c2 := hbw.bb.cell
      have c3 := hbw.y.cell
      have c4 := hiw.cell
      have c5 := hbj.cell
      have f4 := hiw.frozen
      have f5 := hbj.frozen
      have hini : (i : Int) < (n : Int) := by omega
      by_cases hjm : j < m
      · have hjb : j < bs.length := by rw [HM.out]; exact hjm
        obtain ⟨ab, rfl, hcbw⟩ := hrbw.at' hjb
        have hcn := rd_cells (hr2.kp hkp).rd j _ (rowV_at _ _ (by omega))
        have hch := rd_cells (hr1.kp hkp).rd (j + 1) _ (rowV_at _ _ (by omega))
        rw [show ah.add (j + 1) = ⟨ah.block, ah.off + (j + 1), none⟩ by simp [Addr.add]] at hch
        have hjmi : (j : Int) < (m : Int) := by omega
        have j0' : (0 : Int) ≤ (j : Int) + 1 := by omega
        have j1' : ((j : Int) + 1).toNat = j + 1 := by omega
        have j2' : (j : Int) + 1 < (m : Int) + 1 := by omega
        have j3' : (j : Int) < (m : Int) + 1 := by omega
        have j4' : IntKind.i64.wrap ((j : Int) + 1) = (j : Int) + 1 := IntWalk.i64_in _ (by omega)
        by_cases hxy : ls[i] = bs[j]
        · have HR : Hid (rest ls bs i j = (i, j) :: rest ls bs (i + 1) (j + 1)) := Lib.hid (rest_same hil hjb hxy)
          have hbe : (ls[i] == bs[j]) = true := by simpa using hxy
          have hbn : (ls[i] != bs[j]) = false := by simpa using hxy
          have hjme : ((j : Int) == (m : Int)) = false := by simp; omega
          generalize ls[i] = x at *
          generalize bs[j] = y at *
          clear hxy hcn hch
          gi_wp2
          refine round_quiet (by kernel_rfl) (by kernel_rfl) (by kernel_rfl) ?_ ?_
          · rintro ⟨_, _, h⟩; exact h
          repeat (go_big_quiet_step (fail))
          refine wpQuiet_nil ?_
          intro _ hw'
          obtain ⟨nq, hw''⟩ := hw'
          subst hw''
          clear j0' j1' j2' j3' j4'
          gi_wp2
          refine round_quiet (by kernel_rfl) (by kernel_rfl) (by kernel_rfl) ?_ ?_
          · rintro ⟨_, _, h⟩; exact h
          repeat (go_big_quiet_step (fail))
          refine wpQuiet_nil ?_
          intro _ hw'
          obtain ⟨nq2, hw''⟩ := hw'
          subst hw''
          have hJ2 : J dn (wr.drewN (nq + nq2)) := hJ.new hJw (drew_new wr (nq + nq2))
          have hsp : pairs ls bs = dn ++ (i, j) :: rest ls bs (i + 1) (j + 1) := by rw [HPJ.out, HR.out]
          obtain ⟨fn, tmps, assign, body, hy, hRR⟩ := HY.out dn (i, j) _ _ (wr.drewN (nq + nq2)) hsp hJ2 rfl
          dsimp only [pairV] at hy
          have HSP := Lib.hid hsp; clear hsp
          gi_wp2
          refine (round_depth hRR).mono ?_
          rintro e W3 (⟨rfl, hJ3, hk3⟩ | ⟨rfl, hJx3, hkx3⟩)
          · have hbi3 : Boxed W3 (W.heap.size + 1) 3 (.int .i64 (i : Int)) := hk3.2.1 _ _ _ _ hiw (by decide) (by decide)
            have hbj3 : Boxed W3 (W.heap.size + 1 + 1) 3 (.int .i64 (j : Int)) := hk3.2.1 _ _ _ _ hbj (by decide) (by decide)
            have d4 := hbi3.cell
            have d5 := hbj3.cell
            have e4 := hbi3.frozen
            have e5 := hbj3.frozen
            obtain ⟨k1, k2, k3, k4⟩ := pset (z := W.heap.size) (n₁ := n₁) hJ hbj3 (.inr rfl) (Nat.le_refl _) hlow (.int .i64 ((j : Int) + 1)) hJ3
            obtain ⟨k5, k6, k7, k8⟩ := pset (z := W.heap.size) (n₁ := n₁) hJ (hbi3.other (B' := W.heap.size + 1 + 1) (by simp) (.int .i64 ((j : Int) + 1))) (.inl rfl) (Nat.le_refl _) hlow (.int .i64 ((i : Int) + 1)) k4
            have kk := kpK_t (kpK_t (kpK_t (kpK_t hkp (kpK_drewN wr (nq + nq2))) (kpI_of_P hk3)) k1) k5
            have HK := Lib.hid (And.intro k2 (And.intro k6 (And.intro k7 (And.intro k3 k8))))
            have hks3 := hk3.2.2
            clear k1 k2 k3 k4 k5 k6 k7 k8
            gi_wp2
            refine ⟨((((hkf _).trans (keepsFrom_drewN _ wr (nq + nq2))).trans (keepsFrom_mono hks3 (by rw [hsz5, HZ.out]; omega))).trans (HK.out.1 _)).trans (HK.out.2.1 _), kk, p_close (j := j + 1) hbx hla' hlb' kk hra hrb hlo HIP.out HK.out.2.2.1 ?_ (by omega) HK.out.2.2.2.2 (by rw [HSP.out]; simp)⟩
            have := HK.out.2.2.2.1.other (B' := W.heap.size + 1) (by simp) (.int .i64 ((i : Int) + 1))
            simpa using this
          · gi_wp2
            exact ⟨((hkf _).trans (keepsFrom_drewN _ wr (nq + nq2))).trans (keepsFrom_mono hkx3 (by rw [hsz5, HZ.out]; omega)), rfl, .inr ⟨dn ++ [(i, j)], _, by rw [HSP.out, List.append_assoc]; rfl, hJx3⟩⟩
        · by_cases hlt : tab ls bs (i + 1) j < tab ls bs i (j + 1)
          · have HR : Hid (rest ls bs i j = rest ls bs i (j + 1)) := Lib.hid (by rw [rest_ne hil hjb hxy, if_neg (by omega)])
            have hbe : (ls[i] == bs[j]) = false := by simpa using hxy
            have hbn : (ls[i] != bs[j]) = true := by simpa using hxy
            have hq1 := lcs_len (ls.drop i) bs (j + 1)
            have hq2 := lcs_len (ls.drop (i + 1)) bs j
            unfold tab at hlt
            generalize ls[i] = x at *
            generalize bs[j] = y at *
            generalize lcs (ls.drop i) (bs.drop (j + 1)) = q1 at *
            generalize lcs (ls.drop (i + 1)) (bs.drop j) = q2 at *
            have hd : decide (q2 < q1) = true := by simpa using hlt
            clear hxy
            gi_wp2
            refine round_quiet (by kernel_rfl) (by kernel_rfl) (by kernel_rfl) ?_ ?_
            · rintro ⟨_, _, h⟩; exact h
            repeat (go_big_quiet_step (fail))
            refine wpQuiet_nil ?_
            intro _ hw'
            obtain ⟨nq, hw''⟩ := hw'
            subst hw''
            clear j0' j1' j2' j3' j4'
            gi_wp2
            have hset : Boxed ((wr.drewN nq).setCell ⟨W.heap.size + 1 + 1, 0, none⟩ (.int .i64 ((j : Int) + 1))) (W.heap.size + 1 + 1) 3 (.int .i64 ((j + 1 : Nat) : Int)) := by
              have := Boxed.set (W := wr.drewN nq) (.int .i64 ((j : Int) + 1)) hbj
              simpa using this
            refine ⟨⟨j + 1, by omega, hset, grow_trans (grow_trans hg (drew_new wr nq) (by simp)) (grownBy_setCell' _ _ _) (fun k e => .inr (by simpa using e)), by rw [HPJ.out, HR.out]⟩, ?_⟩
            rw [jOf_eq hset, jOf_eq hbj]
            omega
          · have HR : Hid (rest ls bs i j = rest ls bs (i + 1) j) := Lib.hid (by rw [rest_ne hil hjb hxy, if_pos (by omega)])
            have hbe : (ls[i] == bs[j]) = false := by simpa using hxy
            have hbn : (ls[i] != bs[j]) = true := by simpa using hxy
            have hq1 := lcs_len (ls.drop i) bs (j + 1)
            have hq2 := lcs_len (ls.drop (i + 1)) bs j
            unfold tab at hlt
            generalize ls[i] = x at *
            generalize bs[j] = y at *
            generalize lcs (ls.drop i) (bs.drop (j + 1)) = q1 at *
            generalize lcs (ls.drop (i + 1)) (bs.drop j) = q2 at *
            have hd : decide (q2 < q1) = false := by simpa using hlt
            have hjme : ((j : Int) == (m : Int)) = false := by simp; omega
            clear hxy
            gi_wp2
            refine round_quiet (by kernel_rfl) (by kernel_rfl) (by kernel_rfl) ?_ ?_
            · rintro ⟨_, _, h⟩; exact h
            repeat (go_big_quiet_step (fail))
            refine wpQuiet_nil ?_
            intro _ hw'
            obtain ⟨nq, hw''⟩ := hw'
            subst hw''
            clear j0' j1' j2' j3' j4'
            gi_wp2
            refine round_quiet (by kernel_rfl) (by kernel_rfl) (by kernel_rfl) ?_ ?_
            · rintro ⟨_, _, h⟩; exact h
            repeat (go_big_quiet_step (fail))
            refine wpQuiet_nil ?_
            intro _ hw'
            obtain ⟨nq2, hw''⟩ := hw'
            subst hw''
            gi_wp2
            obtain ⟨k1, k2, k3, k4⟩ := pset (z := W.heap.size) (n₁ := n₁) (Y := wr.drewN (nq + nq2)) hJ hiw (.inl rfl) (Nat.le_refl _) hlow (.int .i64 ((i : Int) + 1)) (hJ.new hJw (drew_new wr (nq + nq2)))
            have kk := kpK_t (kpK_t hkp (kpK_drewN wr (nq + nq2))) k1
            exact ⟨((hkf _).trans (keepsFrom_drewN _ wr (nq + nq2))).trans (k2 _), kk, p_close hbx hla' hlb' kk hra hrb hlo HIP.out k3 (Boxed.other (W := wr.drewN (nq + nq2)) hbj (by simp) _) hj k4 (by rw [HPJ.out, HR.out])⟩
      · obtain rfl : j = m := by omega
        gi_wp2
        refine round_quiet (by kernel_rfl) (by kernel_rfl) (by kernel_rfl) ?_ ?_
        · rintro ⟨_, _, h⟩; exact h
        repeat (go_big_quiet_step (fail))
        refine wpQuiet_nil ?_
        intro _ hw'
        obtain ⟨nq, hw''⟩ := hw'
        subst hw''
        gi_wp2
        refine ⟨(hkf _).trans (keepsFrom_drewN _ wr nq), rfl, .inl ?_⟩
        have hfin := HPJ.out
        rw [rest_end_right _ (by rw [HM.out]; exact Nat.le_refl _), List.append_nil] at hfin
        rw [hfin]
        exact hJ.new hJw (drew_new wr nq)
  case done =>
    rintro D X hD ⟨_, ⟨j, dn, ⟨_, hp⟩, _, hJd⟩, _⟩ hK
    rw [List.length_range, rest_end_left _ (by rw [HN.out]; exact Nat.le_refl _), List.append_nil] at hp
    gi_wp2
    refine ⟨by simp, .inl ⟨_, _, rfl, run_takeDeferred hK, ?_⟩⟩
    refine ⟨_, results_none rfl _ _ _, ⟨_, rfl⟩, .inl ?_⟩
    rw [hp]
    exact hJ.put (.deferred none) hJd (by rw [hsz5] at hD; omega) hK (.inl rfl)
  case stop =>
    rintro D cd pre post X hD _ ⟨rfl, hend⟩ hK
    gi_wp2
    refine ⟨by simp, .inl ⟨_, _, rfl, run_takeDeferred hK, ?_⟩⟩
    refine ⟨_, results_none rfl _ _ _, ⟨_, rfl⟩, ?_⟩
    rw [hsz5] at hD
    rcases hend with h | ⟨p, q, h1, h2⟩
    · exact .inl (hJ.put (.deferred none) h (by omega) hK (.inl rfl))
    · exact .inr ⟨p, q, h1, hJx.put (.deferred none) h2 (by omega) hK (.inl rfl)⟩

end Lc
end Go.Proofs.Ytkpgkbllcdpobaa

namespace Go.Proofs.Ytkpgkbllcdpobaa
open Go.RowKit Go.Shelf
set_option linter.unusedVariables false
namespace Lc
open Tx Rg
attribute [local go_sem] Oper.semAt_some

theorem info_pair : (Try.prog.info? 60).map (fun i => (i.zero, i.size, i.bytes)) = some (some (.agg #[.int .i64 0, .int .i64 0]), 2, 16) := by kernel_rfl

/-- The cells of pairs. -/
def cellsP (l : List (Nat × Nat)) : List Value := l.flatMap fun p => [.int .i64 (p.1 : Int), .int .i64 (p.2 : Int)]
theorem cellsP_snoc (l : List (Nat × Nat)) (p : Nat × Nat) : cellsP (l ++ [p]) = cellsP l ++ [.int .i64 (p.1 : Int), .int .i64 (p.2 : Int)] := by simp [cellsP]

/-- How Pairs ends. -/
def PairsEnd (w : World) (l : List (Nat × Nat)) (e : Ending) (w' : World) : Prop :=
  ∃ v, e = .returned v ∧ w'.ownsRow w.heap.size 60 2 v l.length (cellsP l) ∧ Below w.heap.size w w'

theorem freeI_not (c : Array Value) {t : TypeId} (ht : t ≠ 3) : ¬ FreeI (.cells c t (0, 0)) := by
  rintro (h | ⟨v, h⟩)
  · cases h
  · injection h with h1 h2; exact ht h2

def AllInv (w : World) (pre : List (Nat × Nat)) (W : World) : Prop :=
  (∃ v, Boxed W w.heap.size 58 v ∧ W.ownsRow w.heap.size 60 2 v pre.length (cellsP pre)) ∧ Below w.heap.size w W
theorem allInv_ab (w : World) {B : Nat} (hB : w.heap.size ≤ B) : Ab FreeI B (AllInv w) :=
  Ab.and (ab_ex fun v => Ab.and (ab_boxed (fun _ => v) (fun _ => freeI_not _ (by decide))) (ab_row _ _ (fun _ => freeI_not _ (by decide)))) (ab_below (Nat.le_refl _) hB)

/-- The block of a pair. -/
def PBlock (W : World) (b : Nat) (p : Nat × Nat) : Prop := W.heap[b]? = some (.cells #[.int .i64 (p.1 : Int), .int .i64 (p.2 : Int)] 60 (0, 0))
theorem pblock_ab {b B : Nat} {p : Nat × Nat} : Ab FreeI B (fun (_ : Unit) W => PBlock W b p) := fun s W W' row hs hg hr =>
  (hg.block b (Array.getElem?_eq_some_iff.1 hs).1 (fun e => by obtain ⟨_, o, ho, hf⟩ := hr b e.symm; rw [show W.heap[b]? = _ from hs] at ho; cases ho; exact freeI_not _ (by decide) hf)).trans hs
theorem PBlock.c0 {W : World} {b : Nat} {p : Nat × Nat} (h : PBlock W b p) : W.cell? ⟨b, 0, none⟩ = some (.int .i64 (p.1 : Int)) := by simp [World.cell?, show W.heap[b]? = _ from h]
theorem PBlock.c1 {W : World} {b : Nat} {p : Nat × Nat} (h : PBlock W b p) : W.cell? ⟨b, 1, none⟩ = some (.int .i64 (p.2 : Int)) := by simp [World.cell?, show W.heap[b]? = _ from h]

theorem kpP_alloc {n₁ B : Nat} (W : World) (o : Obj) (hn : n₁ ≤ W.heap.size) : KpP n₁ B W (W.alloc o) :=
  ⟨(Below.refl _ _).alloc hn o, fun k c t f h _ _ => (Below.heap_alloc W o k (Array.getElem?_eq_some_iff.1 h).1).trans h, (KeepsOthers.alloc W o).from B⟩
/-- Behind an append to the list of pairs. -/
theorem kpP_app {n₁ B b : Nat} {W w1 : World} {tmp : Obj} {v v' : Value} {n : Nat} {xs : List Value} (hn : n₁ ≤ W.heap.size) (hb : n₁ ≤ b) (hv : Boxed W b 58 v) (hrow : W.ownsRow n₁ 60 2 v n xs) (hgrow : (W.alloc tmp).grownBy w1 v.ownBlock) :
    KpP n₁ B W (w1.setCell ⟨b, 0, none⟩ v') := by
  have hrow' := hrow.alloc tmp
  have hv' := hv.alloc tmp
  have h1 : KpP n₁ B (W.alloc tmp) w1 := by
    refine ⟨(Below.refl _ _).grown hgrow (by simp; omega) (own_ge hrow'), fun k c t f h ht _ => ?_, (KeepsOthers.of_grownBy hgrow fun j o e ho => ?_).from B⟩
    · refine (hgrow.block k (Array.getElem?_eq_some_iff.1 h).1 (fun e => ?_)).trans h
      rcases hrow'.2 with ⟨rfl, _⟩ | ⟨g, cap, cur, rfl, _, hg, _⟩
      · simp [Value.ownBlock] at e
      · obtain rfl : k = g := by simpa [Value.ownBlock] using e
        rw [h] at hg; cases hg; exact ht rfl
    · rcases hrow'.2 with ⟨rfl, _⟩ | ⟨g, cap, cur, rfl, _, hg, _⟩
      · simp [Value.ownBlock] at e
      · obtain rfl : g = j := by simpa [Value.ownBlock] using e
        rw [hg] at ho; cases ho; rfl
  have hv1 : Boxed w1 b 58 v := hv'.kept hgrow (hv'.not_row (by decide) hrow')
  refine kpP_t (kpP_t (kpP_alloc W tmp hn) h1) ⟨(Below.refl _ _).setCell (p := ⟨b, 0, none⟩) hb _, fun k c t f h _ ht => ?_, (KeepsOthers.setCell _ _ _).from B⟩
  refine (Below.heap_setCell _ _ _ k (fun e => ?_)).trans h
  subst e
  rw [show w1.heap[k]? = _ from hv1] at h; cases h; exact ht rfl

theorem cells2_new (W : World) (x y : Value) (t : TypeId) : ∀ (j : Nat) (u : Value), [x, y][j]? = some u → (W.alloc (.cells #[x, y] t)).cell? ((⟨W.heap.size, 0, none⟩ : Addr).add j) = some u := by
  intro j u hu
  have h := World.alloc_heap_new W (.cells #[x, y] t)
  match j with
  | 0 => simp at hu; subst hu; rw [add_zero']; unfold World.cell?; rw [h]; rfl
  | 1 => simp at hu; subst hu; rw [show (⟨W.heap.size, 0, none⟩ : Addr).add 1 = ⟨W.heap.size, 1, none⟩ from rfl]; unfold World.cell?; rw [h]; rfl
  | j + 2 => simp at hu

set_option maxRecDepth 100000 in
set_option maxHeartbeats 2000000 in
theorem Pairs (A A' : Option Addr) (c c' n m B : Nat) (ls bs : List (List UInt8)) (w : World) (hn : ls.length = n) (hm : bs.length = m) (hnc : n ≤ c) (hln : n ≤ 1000) (hlm : m ≤ 1000) (hB : B ≤ w.heap.size)
    (hR : RdS w B A ls) (hR' : RdS w B A' bs) :
    Calls Try.prog 40 #[.slice A n c, .slice A' m c'] w (PairsEnd w (pairs ls bs)) := by
  obtain ⟨i0, hi, hz0, hz1, hz2⟩ := info_parts info_pair
  have HM := Lib.hid hm; clear hm
  have HN := Lib.hid hn; clear hn
  refine (callsIn_wide (n := 4)).1 ?_
  refine callsIn_of_wp_marks Try.func40 rfl trivial ?_ rfl
  simp only [Try.ntmps40, List.size_toArray, List.length_cons, List.length_nil, Nat.reduceAdd, Nat.reduceSub, Array.replicate_succ, Array.replicate_zero, List.push_toArray, List.append_toArray, List.nil_append, List.cons_append]
  gi_wp2_with fail
  refine ⟨trivial, ?_⟩
  refine (pairs_in 3 _ _ _ _ _ _ _).mono ?_
  rintro e w' ⟨rfl, rfl⟩
  gi_wp2
  have hb0 := ((Boxed.new w 58 (.slice none 0 0)).alloc (.cells #[.slice A n c] 22)).alloc (.cells #[.slice A' m c'] 22)
  have hb1 := (Boxed.new (w.alloc (.cells #[.slice none 0 0] 58)) 22 (.slice A n c)).alloc (.cells #[.slice A' m c'] 22)
  have hb2 := Boxed.new ((w.alloc (.cells #[.slice none 0 0] 58)).alloc (.cells #[.slice A n c] 22)) 22 (.slice A' m c')
  simp only [World.size_alloc] at hb1 hb2
  have hw3 : Below w.heap.size w (((w.alloc (.cells #[.slice none 0 0] 58)).alloc (.cells #[.slice A n c] 22)).alloc (.cells #[.slice A' m c'] 22)) := (((Below.refl _ _).alloc (Nat.le_refl _) _).alloc (by simp) _).alloc (by simp; omega) _
  have hsz : (((w.alloc (.cells #[.slice none 0 0] 58)).alloc (.cells #[.slice A n c] 22)).alloc (.cells #[.slice A' m c'] 22)).heap.size = w.heap.size + 3 := by simp
  have hplen := pairs_len ls bs
  have hpl2 := (lcs_le ls bs).1
  rw [HN.out] at hpl2
  have HPL : Hid ((pairs ls bs).length ≤ 1000) := Lib.hid (by omega)
  clear hplen hpl2
  refine range_law (n := 4) (gf := 48) (lb := #[.pointer (some ⟨w.heap.size + 1, 0, none⟩), .pointer (some ⟨w.heap.size + 1 + 1, 0, none⟩)]) rfl (enters_of Try.func48 (by kernel_rfl) rfl) (Free := FreeI) (fun _ h => .inl h)
    (pairs_gives w.heap.size (w.heap.size + 1) (w.heap.size + 1 + 1) n m c c' A A' ls bs HN.out HM.out hnc hln hlm _ hb1 hb2 (by rw [hsz]; omega) ((hR.up hB).below hw3) ((hR'.up hB).below hw3))
    kpP_t (kpP_b (by rw [hsz]; omega) (by omega)) (fun x vals W h => by subst h; rfl)
    (AllInv w) (fun _ _ _ => False) (allInv_ab w (by rw [hsz]; omega)) (fun _ => ab_pure _ _ _) ⟨⟨_, hb0, World.ownsRow_nil _ _ _ _⟩, hw3⟩
    (fun p a' X => ∃ b, a' = { tmps := #[.slice A n c, .slice A' m c', undef, undef, .slice none 0 0, .pointer (some ⟨w.heap.size, 0, none⟩), .pointer (some ⟨b, 0, none⟩), .slice A n c, .slice A' m c', .func (.func 48) #[] #[.pointer (some ⟨w.heap.size + 1, 0, none⟩), .pointer (some ⟨w.heap.size + 1 + 1, 0, none⟩)], pairV p, undef, undef, undef, undef, undef], defers := [] } ∧ PBlock X b p)
    (fun p a' => ab_ex fun b => Ab.and (ab_pure _ _ _) pblock_ab) ?assign ?body ?done ?stop
  case assign =>
    rintro l pre p vals X K ⟨⟨v, hv, hrow⟩, hBl⟩ rfl hK
    have hw := hBl.size
    gi_wp2
    refine hK _ _ ((KeepsOthers.alloc X _).from _) (kpP_alloc X _ hw) ⟨⟨v, hv.alloc _, hrow.alloc _⟩, hBl.alloc hw _⟩ ⟨_, rfl, ?_⟩
    exact World.alloc_heap_new X _
  case body =>
    rintro l pre post p a' X hfull ⟨⟨v, hv, hrow⟩, hBl⟩ ⟨b, rfl, hpb⟩
    have hlen : pre.length < 1000 := by have := HPL.out; rw [hfull] at this; simp at this; omega
    clear hfull
    have hc := hv.cell
    have hc0 := hpb.c0
    have hc1 := hpb.c1
    have hw := hBl.size
    gi_wp2_with (gi_at_builtin; refine wpListIn_append_own _ rfl _ _ 58 rfl w.heap.size 60 i0 (.agg #[.int .i64 0, .int .i64 0]) 2 16 Try.underlying58 hi hz0 hz1 hz2 rfl (by decide) _ _ _ rfl (hrow.alloc _) ⟨X.heap.size, 0, none⟩ 1 1 [.int .i64 (p.1 : Int), .int .i64 (p.2 : Int)] rfl rfl (cells2_new _ _ _ _) (by simp [Value.oneCell']) (by unfold maxLen; omega) (by omega) (by simp; omega) ?_; intro v' w1 hown' hgrow _; obtain ⟨g', cap', rfl⟩ := ownsRow_succ hown'; obtain ⟨hv1, hv2, hr2, hk2, hb2⟩ := hv.appended (by decide) hrow hBl.size (by omega) hown' hgrow; have hc1 := hv1.cell; have hf1 := hv1.frozen)
    refine ⟨hk2.from _, kpP_app hw (Nat.le_refl _) hv hrow hgrow, ⟨_, hv2, ?_⟩, hBl.trans hb2⟩
    rw [List.length_append, cellsP_snoc]
    exact hr2
  case done =>
    rintro D W hD ⟨⟨v, hv, hrow⟩, hBl⟩ hK
    have hc := hv.cell
    obtain ⟨Av, cv, rfl⟩ : ∃ A c, v = .slice A (pairs ls bs).length c := by
      rcases hrow.2 with ⟨rfl, h⟩ | ⟨g, cap, cur, rfl, _⟩
      · exact ⟨none, 0, by rw [h]⟩
      · exact ⟨_, _, rfl⟩
    gi_wp2
    refine ⟨by simp, .inl ⟨_, _, rfl, run_takeDeferred hK, ?_⟩⟩
    refine ⟨_, results_tmp rfl _ _ _, _, rfl, ownsRow_putObj hrow _ hK rfl, ?_⟩
    exact hBl.grown (grownBy_putObj' _ D _) hBl.size (fun j e => by cases e; rw [hsz] at hD; omega)
  case stop =>
    rintro D c pre post W _ _ h _
    exact h.elim

end Lc
end Go.Proofs.Ytkpgkbllcdpobaa

namespace Go.Proofs.Ytkpgkbllcdpobaa
open Go.RowKit
set_option linter.unusedVariables false
namespace Df
open Tx Lc

section
variable {α : Type}
theorem one_self (b : List α) (i j : Nat) : one b i j i j = [] := by unfold one; rw [if_neg (by omega)]
theorem step_tell {a b : List α} {i j : Nat} {p : Nat × Nat} {l e : List (Nat × Nat)} {es X : List (Ed α)} (hr : Ris a b i j (p :: l)) (h : es ++ eds b i j (p :: l ++ e) = X) :
    Ris a b p.1 p.2 (p :: l) ∧ (es ++ one b i j p.1 p.2) ++ eds b p.1 p.2 (p :: l ++ e) = X := by
  refine ⟨⟨Nat.le_refl _, Nat.le_refl _, hr.2.2.1, hr.2.2.2⟩, ?_⟩
  rw [← h, List.cons_append, eds, eds, one_self, List.nil_append, List.append_assoc]
theorem step_pair {a b : List α} {p : Nat × Nat} {l e : List (Nat × Nat)} {es X : List (Ed α)} (hr : Ris a b p.1 p.2 (p :: l)) (h : es ++ eds b p.1 p.2 (p :: l ++ e) = X) :
    Ris a b (p.1 + 1) (p.2 + 1) l ∧ es ++ eds b (p.1 + 1) (p.2 + 1) (l ++ e) = X := by
  refine ⟨hr.2.2.2, ?_⟩
  rw [← h, List.cons_append, eds, one_self, List.nil_append]
theorem step_end {b : List α} {i j n m : Nat} {es X : List (Ed α)} (h : es ++ eds b i j ([] ++ [(n, m)]) = X) : (es ++ one b i j n m) ++ eds b n m ([] ++ [(n, m)]) = X := by
  rw [← h, List.nil_append, eds, eds, one_self, eds, eds, List.append_nil, List.append_nil, List.append_nil]
theorem step_exit {a b : List α} {l : List (Nat × Nat)} {n m : Nat} {es X : List (Ed α)} (hr : Ris a b n m l) (hn : a.length = n) (h : es ++ eds b n m (l ++ [(n, m)]) = X) : es = X := by
  cases l with
  | nil => rw [← h, List.nil_append, eds, eds, one_self, List.append_nil, List.append_nil]
  | cons p l => have := (ris_le hr).1; have := hr.1; omega
end

/-- The block of the pairs. -/
def PB (w : World) (g : Nat) (pl : List (Nat × Nat)) : Prop :=
  ∃ cur, w.heap[g]? = some (.cells cur 60 (0, 0)) ∧ ∀ (k : Nat) p, pl[k]? = some p → cur[k * 2]? = some (.int .i64 (p.1 : Int)) ∧ cur[k * 2 + 1]? = some (.int .i64 (p.2 : Int))
theorem PB.kept {w w' : World} {g : Nat} {pl : List (Nat × Nat)} (h : PB w g pl) (hk : KpE w w') : PB w' g pl := by
  obtain ⟨cur, h1, h2⟩ := h
  exact ⟨cur, hk g _ _ _ h1 (by decide) (by decide) (by decide), h2⟩
theorem PB.at_ {w : World} {g : Nat} {pl : List (Nat × Nat)} (h : PB w g pl) {k : Nat} (hk : k < pl.length) :
    w.cell? ⟨g, k * 2, none⟩ = some (.int .i64 (pl[k].1 : Int)) ∧ w.cell? ⟨g, k * 2 + 1, none⟩ = some (.int .i64 (pl[k].2 : Int)) := by
  obtain ⟨cur, h1, h2⟩ := h
  obtain ⟨c0, c1⟩ := h2 k _ (List.getElem?_eq_getElem hk)
  exact ⟨cell_of h1 _ c0, cell_of h1 _ c1⟩
theorem cellsP_at : ∀ (pl : List (Nat × Nat)) (k : Nat) (p : Nat × Nat), pl[k]? = some p → (cellsP pl)[k * 2]? = some (.int .i64 (p.1 : Int)) ∧ (cellsP pl)[k * 2 + 1]? = some (.int .i64 (p.2 : Int))
  | [], k, p, h => by simp at h
  | q :: l, 0, p, h => by cases h; exact ⟨rfl, rfl⟩
  | q :: l, k + 1, p, h => by
    have := cellsP_at l k p (by simpa using h)
    rw [show (k + 1) * 2 = k * 2 + 1 + 1 by omega]
    exact this
theorem pb_own {w : World} {base N : Nat} {v : Value} {pl : List (Nat × Nat)} (h : w.ownsRow base 60 2 v N (cellsP pl)) (hN : pl.length = N) :
    ∃ A c g, v = .slice A N c ∧ N ≤ c ∧ (0 < N → A = some ⟨g, 0, none⟩) ∧ (0 < N → PB w g pl) := by
  rcases h.2 with ⟨rfl, rfl⟩ | ⟨g, cap, cur, rfl, _, hg, hc, hcap, hsz, ht⟩
  · exact ⟨none, 0, 0, rfl, Nat.le_refl _, fun h => absurd h (by omega), fun h => absurd h (by omega)⟩
  · refine ⟨_, cap, g, rfl, hc, fun _ => rfl, fun _ => ⟨cur, hg, fun k p hp => ?_⟩⟩
    have hk : k < pl.length := (List.getElem?_eq_some_iff.1 hp).1
    obtain ⟨c0, c1⟩ := cellsP_at pl k p hp
    have e0 := h.cellAt (k * 2) (by omega)
    have e1 := h.cellAt (k * 2 + 1) (by omega)
    rw [c0, cell_of_row w g (k * 2) cur _ (0, 0) hg] at e0
    rw [c1, cell_of_row w g (k * 2 + 1) cur _ (0, 0) hg] at e1
    exact ⟨e0, e1⟩

theorem frozen_al {W : World} {p : Addr} {u : Value} (o : Obj) (h : W.cell? p = some u) (hf : W.frozen? p = false) : (W.alloc o).frozen? p = false := (((Below.refl _ W).alloc (Nat.le_refl _) o).frozen (p := p) (World.block_lt_of_cell? W p h)).trans hf

/-- tell, in one. -/
theorem tell (h i j p q m c : Nat) (A : Option Addr) (bs : List (List UInt8)) (es : List E) (W : World) (hv : Vars W h (.slice A m c) i j es) (hm : bs.length = m) (hmc : m ≤ c) (hip : i ≤ p) (hjq : j ≤ q) (hqm : q ≤ m) (hp : p ≤ 1000) (hm1 : m ≤ 1000) (hes : es.length ≤ 10000) (hh : h ≤ W.heap.size)
    (hR : RdS W h A bs) :
    Calls Try.prog 38 #[.int .i64 (p : Int), .int .i64 (q : Int), .pointer (some ⟨h + 2, 0, none⟩), .pointer (some ⟨h + 3, 0, none⟩), .pointer (some ⟨h + 1, 0, none⟩), .pointer (some ⟨h, 0, none⟩)] W (TellEnd W h (.slice A m c) p q (es ++ one bs i j p q)) := by
  by_cases hor : i < p ∨ j < q
  · rw [one, if_pos hor]
    by_cases hcj : c = j
    · subst hcj
      exact tell_at h i c p q m A bs es W hv hm hmc hip hjq hqm hp hm1 hes hh hR hor
    · exact tell_un h i j p q m c A bs es W hv hm hmc hip hjq hqm hp hm1 hes hh hR hor hcj
  · obtain rfl : i = p := by omega
    obtain rfl : j = q := by omega
    rw [one_self, List.append_nil]
    exact tell_no h i j _ es W hv (by omega) (by omega)

/-- How Edits ends. -/
def EditsEnd (w : World) (es : List E) (e : Ending) (w' : World) : Prop :=
  ∃ A c, e = .returned (.slice A es.length c) ∧ es.length ≤ c ∧ RdE w' w'.heap.size A es ∧ Below w.heap.size w w'

/-- What holds between the stretches. -/
structure EInv (w w1 : World) (h : Nat) (vb : Value) (a b : List (List UInt8)) (pl : List (Nat × Nat)) (k i j : Nat) (es : List E) (wr : World) : Prop where
  v : Vars wr h vb i j es
  kp : KpE w1 wr
  bl : Below h w wr
  ri : Ris a b i j (pl.drop k)
  le : i ≤ a.length
  le' : j ≤ b.length
  lk : k ≤ pl.length
  eq : es ++ eds b i j (pl.drop k ++ [(a.length, b.length)]) = edits a b

/-- The rest of the pairs. -/
def Rest (g N k : Nat) (v : Value) : Prop := ∃ A c, v = .slice A (N - k) c ∧ N - k ≤ c ∧ (k < N → A = some ⟨g, k * 2, none⟩)

theorem EInv.few {w w1 : World} {h : Nat} {vb : Value} {a b : List (List UInt8)} {pl : List (Nat × Nat)} {k i j : Nat} {es : List E} {wr : World} (I : EInv w w1 h vb a b pl k i j es wr) : es.length ≤ a.length + b.length := by
  have h1 := edits_len_le a b
  rw [← I.eq, List.length_append] at h1
  omega

theorem Vars.below {W W' : World} {h : Nat} {vb : Value} {i j : Nat} {es : List E} (hv : Vars W h vb i j es) (hb : Below W.heap.size W W') : Vars W' h vb i j es := by
  obtain ⟨h0, h2, h3, v, xs, h1, hr, hE⟩ := hv
  have up : ∀ {b t u}, Boxed W b t u → Boxed W' b t u := fun {b t u} hx => (hb.block b hx.lt).trans hx
  have ur : ∀ {base e size v n xs}, W.ownsRow base e size v n xs → W'.ownsRow base e size v n xs := fun {base e size v n xs} hx => ⟨hx.1, by
    rcases hx.2 with h | ⟨g, cap, cur, k1, k2, k3, k4⟩
    · exact .inl h
    · exact .inr ⟨g, cap, cur, k1, k2, (hb.block g (Array.getElem?_eq_some_iff.1 k3).1).trans k3, k4⟩⟩
  refine ⟨up h0, up h2, up h3, v, xs, up h1, ur hr, hE.1, fun k x hx => ?_⟩
  obtain ⟨A, c, g1, g2, g3, g4, g5⟩ := hE.2 k x hx
  exact ⟨A, c, g1, g2, g3, ur g4, g5⟩

set_option maxRecDepth 100000 in
set_option maxHeartbeats 4000000 in
theorem Edits (A A' : Option Addr) (c c' n m B : Nat) (a b : List (List UInt8)) (w : World) (hn : a.length = n) (hm : b.length = m) (hnc : n ≤ c) (hmc : m ≤ c') (hln : n ≤ 1000) (hlm : m ≤ 1000) (hB : B ≤ w.heap.size)
    (hR : RdS w B A a) (hR' : RdS w B A' b) :
    Calls Try.prog 31 #[.slice A n c, .slice A' m c'] w (EditsEnd w (edits a b)) := by
  have HN := Lib.hid hn; clear hn
  have HM := Lib.hid hm; clear hm
  go_enter Try.func31, Try.ntmps31
  have hb0 := ((Boxed.new w 22 (.slice A' m c')).alloc (.cells #[.slice none 0 0] 47)).alloc (.cells #[.int .i64 0] 3) |>.alloc (.cells #[.int .i64 0] 3)
  have hb1 := ((Boxed.new (w.alloc (.cells #[.slice A' m c'] 22)) 47 (.slice none 0 0)).alloc (.cells #[.int .i64 0] 3)).alloc (.cells #[.int .i64 0] 3)
  have hb2 := (Boxed.new ((w.alloc (.cells #[.slice A' m c'] 22)).alloc (.cells #[.slice none 0 0] 47)) 3 (.int .i64 0)).alloc (.cells #[.int .i64 0] 3)
  have hb3 := Boxed.new (((w.alloc (.cells #[.slice A' m c'] 22)).alloc (.cells #[.slice none 0 0] 47)).alloc (.cells #[.int .i64 0] 3)) 3 (.int .i64 0)
  have hw4 : Below w.heap.size w ((((w.alloc (.cells #[.slice A' m c'] 22)).alloc (.cells #[.slice none 0 0] 47)).alloc (.cells #[.int .i64 0] 3)).alloc (.cells #[.int .i64 0] 3)) := ((((Below.refl _ _).alloc (Nat.le_refl _) _).alloc (by simp) _).alloc (by simp; omega) _).alloc (by simp; omega) _
  simp only [World.size_alloc] at hb1 hb2 hb3
  go_wp2_with fail
  go_step3
  go_wp2_with fail
  generalize hW0 : ((((w.alloc (.cells #[.slice A' m c'] 22)).alloc (.cells #[.slice none 0 0] 47)).alloc (.cells #[.int .i64 0] 3)).alloc (.cells #[.int .i64 0] 3)) = w0 at *
  clear hW0
  refine (Pairs A A' c c' n m B a b w0 HN.out HM.out hnc hln hlm (Nat.le_trans hB hw4.size) (hR.below (hw4.mono hB)) (hR'.below (hw4.mono hB))).mono ?_
  obtain ⟨pl, hPL⟩ : ∃ pl, pairs a b = pl := ⟨_, rfl⟩
  obtain ⟨N, hNN⟩ : ∃ N, pl.length = N := ⟨_, rfl⟩
  have hris := pairs_ris a b
  have heds : ([] : List E) ++ eds b 0 0 (pl ++ [(a.length, b.length)]) = edits a b := by rw [← hPL]; rfl
  rw [hPL] at hris ⊢
  rintro e w1 ⟨v, rfl, hrow, hbw⟩
  rw [hNN] at hrow
  obtain ⟨Ap, cp, g, rfl, hcp, hAp, hPB⟩ := pb_own hrow hNN
  have hv0 : Vars w1 w.heap.size (.slice A' m c') 0 0 [] := Vars.below (W := w0) ⟨hb0, hb2, hb3, .slice none 0 0, [], hb1, World.ownsRow_nil _ _ _ _, ecells_nil _ _⟩ hbw
  have I0 : EInv w w1 w.heap.size (.slice A' m c') a b pl 0 0 0 [] w1 := ⟨hv0, KpE.refl _, hw4.trans (hbw.mono hw4.size), hris, Nat.zero_le _, Nat.zero_le _, Nat.zero_le _, heds⟩
  have hR1 : RdS w w.heap.size A' b := Rd.up hR' hB
  clear hb0 hb1 hb2 hb3 hv0 hris heds hrow hbw hPL hw4 hR hR'
  have HNN := Lib.hid hNN; clear hNN
  have HAp := Lib.hid hAp; clear hAp
  have HPB := Lib.hid hPB; clear hPB
  have hs0 := I0.bl.size
  have HI0 := Lib.hid I0; clear I0
  generalize hh : w.heap.size = h at *
  rw [show h + 1 + 1 + 1 = h + 3 from rfl, show h + 1 + 1 = h + 2 from rfl]
  have HH := Lib.hid hh; clear hh
  go_wp2_with fail
  go_step3
  go_wp2_with fail
  go_loopg [9] (n + m) (fun gk v9 wr => ∃ (k i j : Nat) (es : List E), EInv w w1 h (.slice A' m c') a b pl k i j es wr ∧ Rest g N k v9 ∧ gk = (n - i) + (m - j))
  case atStart => exact ⟨0, 0, 0, [], HI0.out, ⟨Ap, cp, rfl, hcp, fun hlt => by rw [Nat.zero_mul]; exact HAp.out hlt⟩, rfl⟩
  case round =>
    obtain ⟨k, i, j, es, I, hrest, hgk⟩ := hrel
    have hi := I.le
    have hj := I.le'
    rw [HN.out] at hi
    rw [HM.out] at hj
    have ci := I.v.i.cell
    have cj := I.v.j.cell
    have cb := I.v.b.cell
    have HG := Lib.hid hgk; clear hgk
    by_cases hlt : i < n ∨ j < m
    · have hgp : 0 < gk := by have := HG.out; omega
      have HI := Lib.hid I; have HRS := Lib.hid hrest; clear I hrest
      obtain ⟨go, hgo⟩ : ∃ go, go = gk := ⟨_, rfl⟩
      subst hgo
      by_cases hin : i < n
      all_goals
        go_wp2_with fail
        go_loopg [9] N (fun gi v9 wr => ∃ (k i j : Nat), EInv w w1 h (.slice A' m c') a b pl k i j es wr ∧ Rest g N k v9 ∧ (n - i) + (m - j) ≤ go ∧ N - k ≤ gi)
        case atStart => exact ⟨k, i, j, HI.out, HRS.out, by have := HG.out; omega, by omega⟩
        case round =>
          clear ci cj cb HI HRS hi hj hlt HG
          obtain ⟨k2, i2, j2, I, ⟨A9, c9, rfl, hc9, hA9⟩, hgk2, hgi⟩ := hrel
          have hi := I.le
          have hj := I.le'
          have hlk := I.lk
          rw [HN.out] at hi
          rw [HM.out] at hj
          rw [HNN.out] at hlk
          have ci := I.v.i.cell
          have cj := I.v.j.cell
          have cb := I.v.b.cell
          have fi := I.v.i.frozen
          have fj := I.v.j.frozen
          have hfew := I.few
          rw [HN.out, HM.out] at hfew
          have hsz : h ≤ wr.heap.size := by have := I.bl.size; rw [HH.out] at this; exact this
          by_cases hk : k2 < N
          · have hA := hA9 hk
            subst hA
            clear hA9
            have hkl : k2 < pl.length := by rw [HNN.out]; exact hk
            obtain ⟨hp0, hp1⟩ := ((HPB.out (by omega)).kept I.kp).at_ hkl
            have hri := I.ri
            have heq := I.eq
            have HD := Lib.hid (drop_at hkl)
            rw [drop_at hkl] at hri heq
            generalize pl[k2] = pr at *
            obtain ⟨p0, p1⟩ := pr
            simp only at hp0 hp1
            have hle := ris_le hri
            rw [HN.out, HM.out] at hle
            obtain ⟨hle1, hle2⟩ := hle
            have hg1 := hri.1
            have hg2 := hri.2.1
            simp only at hle1 hle2 hg1 hg2
            have ci' := fun o => cell_al o ci
            have cj' := fun o => cell_al o cj
            have HI := Lib.hid I; have HRI := Lib.hid hri; have HEQ := Lib.hid heq; clear I hri heq
            have hv1 := fun o => Vars.below HI.out.v ((Below.refl _ wr).alloc (Nat.le_refl _) o)
            have HV1 := Lib.hid hv1; clear hv1
            by_cases hor : i2 < p0 ∨ j2 < p1
            · by_cases h1 : i2 < p0
              all_goals
                go_wp2_with fail
                refine (tell h i2 j2 p0 p1 m c' A' b es _ (HV1.out _) HM.out hmc hg1 hg2 (by omega) (by omega) hlm (by omega) (by simp; omega) (Rd.below hR1 (HI.out.bl.alloc hsz _))).mono ?_
                rintro e w2 ⟨rfl, hv2, hb2, hk2⟩
                have hI2 : EInv w w1 h (.slice A' m c') a b pl k2 p0 p1 (es ++ one b i2 j2 p0 p1) w2 := by
                  obtain ⟨r1, r2⟩ := step_tell HRI.out HEQ.out
                  rw [← HD.out] at r1 r2
                  exact ⟨hv2, (HI.out.kp.trans (kpE_none (World.grownBy_alloc wr _ none))).trans hk2, (HI.out.bl.alloc hsz _).trans hb2, r1, by rw [HN.out]; omega, by rw [HM.out]; omega, HI.out.lk, r2⟩
                have HI2 := Lib.hid hI2; clear hI2 hv2 hb2 hk2
                go_wp2
                go_roundg ((n - p0) + (m - p1))
                case measure => omega
                case rel => exact ⟨k2, p0, p1, _, HI2.out, ⟨_, c9, rfl, hc9, fun _ => rfl⟩, rfl⟩
            · obtain rfl : i2 = p0 := by omega
              obtain rfl : j2 = p1 := by omega
              have hm1 : ∀ o, EInv w w1 h (.slice A' m c') a b pl (k2 + 1) (i2 + 1) (j2 + 1) es ((((wr.alloc o).setCell ⟨h + 2, 0, none⟩ (.int .i64 ((i2 + 1 : Nat) : Int))).setCell ⟨h + 3, 0, none⟩ (.int .i64 ((j2 + 1 : Nat) : Int))).drewN 1) := fun o => by
                obtain ⟨m1, m2, m3⟩ := moved2 (W := wr) ⟨Vars.below HI.out.v ((Below.refl _ wr).alloc (Nat.le_refl _) o), (Below.refl h wr).alloc hsz o, kpE_none (World.grownBy_alloc wr o none)⟩ (i2 + 1) (j2 + 1)
                obtain ⟨r1, r2⟩ := step_pair (p := (i2, j2)) HRI.out HEQ.out
                exact ⟨Vars.below m1 (below_drewN (Below.refl _ _) 1), (HI.out.kp.trans m3).trans (kpE_none ⟨rfl, rfl, rfl, Nat.le_refl _, fun _ _ _ => rfl⟩), below_drewN (HI.out.bl.trans m2) 1, r1, by rw [HN.out]; omega, by rw [HM.out]; omega, by rw [HNN.out]; omega, r2⟩
              have HM1 := Lib.hid hm1; clear hm1
              have fi' := fun o => frozen_al o ci fi
              have fj' := fun o => frozen_al o cj fj
              by_cases hc1 : c9 = 1
              all_goals
                go_wp2_with fail
                go_region
                all_goals
                  go_wp2
                  go_roundg (N - (k2 + 1))
                  case measure => omega
                  case rel => exact ⟨k2 + 1, i2 + 1, j2 + 1, HM1.out _, ⟨_, _, by rw [Nat.sub_add_eq], by omega, fun hlt => by first | omega | (rw [Nat.add_mul])⟩, by omega, by omega⟩
          · obtain rfl : k2 = N := by omega
            have heq := I.eq
            rw [List.drop_of_length_le (by rw [HNN.out]; omega), HN.out, HM.out] at heq
            have HEQ := Lib.hid (step_end heq)
            have HI := Lib.hid I; clear I heq
            go_wp2_with fail
            refine (tell h i2 j2 n m m c' A' b es _ HI.out.v HM.out hmc hi hj (by omega) (by omega) hlm (by omega) hsz (Rd.below hR1 HI.out.bl)).mono ?_
            rintro e w2 ⟨rfl, hv2, hb2, hk2⟩
            have hI2 : EInv w w1 h (.slice A' m c') a b pl k2 n m (es ++ one b i2 j2 n m) w2 := by
              have hd : pl.drop k2 = [] := List.drop_of_length_le (by rw [HNN.out]; omega)
              exact ⟨hv2, HI.out.kp.trans hk2, HI.out.bl.trans hb2, by rw [hd]; trivial, by rw [HN.out]; omega, by rw [HM.out]; omega, HI.out.lk, by rw [hd, HN.out, HM.out]; exact HEQ.out⟩
            have HI2 := Lib.hid hI2; clear hI2 hv2 hb2 hk2
            go_wp2
            go_roundg 0
            case measure => omega
            case rel => exact ⟨k2, n, m, _, HI2.out, ⟨A9, c9, by rw [Nat.sub_self], hc9, hA9⟩, by omega⟩
    · obtain rfl : i = n := by omega
      obtain rfl : j = m := by omega
      have hes := step_exit (X := edits a b) I.ri HN.out (by have := I.eq; rw [HN.out, HM.out] at this; exact this)
      obtain ⟨_, _, _, v, xs, hl, hrow, hE⟩ := I.v
      obtain ⟨Av, cv, rfl, hcv, hrd⟩ := rdE_own hrow hE rfl
      have cl := hl.cell
      have hbl := I.bl
      clear I hl hrow hE HG hrest
      rw [hes] at cl hcv hrd
      go_wp2
      rw [Exit.noGoto_ret]
      go_ret
      exact ⟨Av, cv, rfl, hcv, hrd, by rw [HH.out]; exact hbl⟩

end Df
end Go.Proofs.Ytkpgkbllcdpobaa

namespace Go.Proofs.Ytkpgkbllcdpobaa
open Go.RowKit
set_option linter.unusedVariables false
namespace Hk
open Tx Df

theorem info_hunk : (Try.prog.info? 24).map (fun i => (i.zero, i.size, i.bytes)) = some (some (.agg #[.int .i64 0, .slice none 0 0, .slice none 0 0]), 3, 56) := by kernel_rfl

/-- How Of ends. -/
def OfEnd (w : World) (hs : List HU) (e : Ending) (w' : World) : Prop :=
  ∃ A c, e = .returned (.slice A hs.length c) ∧ hs.length ≤ c ∧ RdH w' w'.heap.size A hs ∧ Below w.heap.size w w'

/-- What holds between the edits. -/
structure OInv (w1 : World) (mb : Nat) (A : Option Addr) (n c : Nat) (a b : List (List UInt8)) (es : List E) (k : Nat) (mv : Int) (pre : List HU) (v : Value) (wr : World) : Prop where
  row : ∃ xs, wr.ownsRow w1.heap.size 24 3 v k xs ∧ HCells wr w1.heap.size w1.heap.size pre xs
  len : pre.length = k
  blk : Blk wr mb 45 #[.slice A n c, .int .i64 mv]
  fr : w1.grownBy wr (some mb)
  eq : pre ++ hks a mv (es.drop k) = hks a 0 es
  at_ : ∃ k0 f u r, apl a k0 f (es.drop k) = some r ∧ u ++ r = b ∧ (u.length : Int) = k0 + mv ∧ k0 ≤ a.length

theorem hunk_drop {α : Type} {l : List α} {k : Nat} (h : k < l.length) : l.drop k = l[k] :: l.drop (k + 1) := List.drop_eq_getElem_cons h

theorem ostep {w1 wr w2 w4 : World} {mb : Nat} {A : Option Addr} {n c : Nat} {a b : List (List UInt8)} {es : List E} {k : Nat} {mv : Int} {pre : List HU} {v v' : Value} {xs : List Value} {p o ll : Nat} {l : List (List UInt8)} {oe ob : Obj}
    {D1 : Option Addr} {k1 : Nat} {A3 : Option Addr} {c3 k0 : Nat} {u r r0 : List (List UInt8)}
    (I : OInv w1 mb A n c a b es k mv pre v wr) (hrow : wr.ownsRow w1.heap.size 24 3 v k xs) (hH : HCells wr w1.heap.size w1.heap.size pre xs) (hmb : mb < w1.heap.size)
    (heq : pre ++ hks a mv (⟨(p : Int), (o : Int), l⟩ :: es.drop (k + 1)) = hks a 0 es) (hap : apl a ((p : Int) + (o : Int)).toNat false (es.drop (k + 1)) = some r) (hr0 : r0 = mid a k0 (p : Int).toNat ++ l ++ r) (hur : u ++ r0 = b) (hul : (u.length : Int) = k0 + mv)
    (hkp : k0 ≤ p) (hn : a.length = n) (hpo : p + o ≤ n) (hln : n ≤ 1000) (hll : l.length = ll) (hll2 : ll ≤ 1000) (hmv : -1000000 ≤ mv) (hmv' : mv ≤ 1000000) (hc3 : ll ≤ c3) (hR3 : RdS wr w1.heap.size A3 l)
    (hr2 : w2.ownsRow (wr.alloc oe).heap.size 9 1 (.slice D1 o k1) o ((mid a p (p + o)).map strV)) (hM2 : Blk w2 mb 45 #[.slice A n c, .int .i64 (mv + ll - o)]) (hg2 : (wr.alloc oe).grownBy w2 (some mb))
    (hown : w4.ownsRow w1.heap.size 24 3 v' (k + 1) (xs ++ [.int .i64 (p + mv), .slice D1 o k1, .slice A3 ll c3])) (hgrow : (w2.alloc ob).grownBy w4 v.ownBlock) :
    OInv w1 mb A n c a b es (k + 1) (mv + ll - o) (pre ++ [⟨p + mv, mid a p (p + o), l⟩]) v' w4 := by
  have hge := own_ge hrow
  have hs1 := I.fr.size
  have g1 := World.grownBy_alloc wr oe none
  have g2 := World.grownBy_alloc w2 ob none
  have hsz2 : w1.heap.size ≤ w2.heap.size := Nat.le_trans hs1 (Nat.le_trans g1.size hg2.size)
  have hsz3 : w1.heap.size ≤ (w2.alloc ob).heap.size := Nat.le_trans hsz2 g2.size
  have hK : Keep w1.heap.size mb wr w4 := ((keep_gr g1 hs1 (fun k e => by cases e)).trans (keep_gr hg2 (Nat.le_trans hs1 g1.size) (fun k e => .inl (by injection e with e; exact e.symm)))).trans
    ((keep_gr g2 hsz2 (fun k e => by cases e)).trans (keep_gr hgrow hsz3 (fun k e => .inr (hge k e))))
  have hrow2 : (w2.alloc ob).ownsRow w1.heap.size 24 3 v k xs := own_gr ((own_gr hrow g1).kept hg2 (.inr fun e => (I.blk.alloc oe).not_row (by decide) (own_gr hrow g1) e.symm)) g2
  have hS : KpS wr w4 := ((kpS_none g1).trans (kpS_blk (I.blk.alloc oe) (by decide) hg2)).trans ((kpS_none g2).trans (kpS_row hrow2 (by decide) hgrow))
  have hRd : ∀ A ls, RdS wr w1.heap.size A ls → RdS w4 w1.heap.size A ls := fun A ls h => rdS_gr I.blk hK h
  have hlen : (mid a p (p + o)).length = o := by rw [mid_len (by omega)]; omega
  have hS2 : KpS w2 w4 := (kpS_none g2).trans (kpS_row hrow2 (by decide) hgrow)
  refine ⟨⟨_, hown, ?_⟩, by rw [List.length_append, I.len]; rfl, (hM2.alloc ob).gr hgrow (fun e => absurd (hge mb e.symm) (by omega)), ?_, ?_, ?_⟩
  · have hh := hcells_snoc (x := ⟨p + mv, mid a p (p + o), l⟩) (A := D1) (c := k1) (A' := A3) (c' := c3) (hH.kept hS hRd) (by simp only [hlen]; exact own_mono (own_kpS hr2 hS2) (Nat.le_trans hs1 g1.size)) (by simp only [hll]; exact hc3) (hRd _ _ hR3) (by unfold I64; simp only; omega) (by simp only [hlen]; unfold maxLen; omega) (by simp only [hll]; unfold maxLen; omega)
    simp only [hlen, hll] at hh
    exact hh
  · have hos := hgrow
    exact ⟨hgrow.os.trans (g2.os.trans (hg2.os.trans (g1.os.trans I.fr.os))), hgrow.tape.trans (g2.tape.trans (hg2.tape.trans (g1.tape.trans I.fr.tape))), hgrow.output.trans (g2.output.trans (hg2.output.trans (g1.output.trans I.fr.output))), Nat.le_trans hsz3 hgrow.size,
      fun k hk hne => (hK k hk (fun e => hne (by rw [e]))).trans (I.fr.block k hk hne)⟩
  · rw [← heq, hks, List.append_assoc]
    simp only [hll, Int.toNat_natCast, show ((p : Int) + (o : Int)).toNat = p + o by omega]
    rfl
  · refine ⟨((p : Int) + (o : Int)).toNat, false, u ++ (mid a k0 p ++ l), r, hap, ?_, ?_, by omega⟩
    · rw [← hur, hr0, Int.toNat_natCast]; simp only [List.append_assoc]
    · rw [List.length_append, List.length_append, mid_len (by omega), hll]; omega

set_option maxRecDepth 100000 in
set_option maxHeartbeats 4000000 in
theorem Of (A A' : Option Addr) (c c' n m B : Nat) (a b : List (List UInt8)) (w : World) (hn : a.length = n) (hm : b.length = m) (hnc : n ≤ c) (hmc : m ≤ c') (hln : n ≤ 1000) (hlm : m ≤ 1000) (hB : B ≤ w.heap.size)
    (hR : RdS w B A a) (hR' : RdS w B A' b) :
    Calls Try.prog 21 #[.slice A n c, .slice A' m c'] w (OfEnd w (hks a 0 (edits a b))) := by
  obtain ⟨i0, hi0, hz0, hz1, hz2⟩ := info_parts info_hunk
  have HN := Lib.hid hn; clear hn
  have HM := Lib.hid hm; clear hm
  go_enter Try.func21, Try.ntmps21
  go_wp2_with fail
  have hb0 := Blk.new w 45 #[.slice A n c, .int .i64 0]
  have hw0 : Below w.heap.size w (w.alloc (.cells #[.slice A n c, .int .i64 0] 45)) := (Below.refl _ _).alloc (Nat.le_refl _) _
  have hs0 : w.heap.size < (w.alloc (.cells #[.slice A n c, .int .i64 0] 45)).heap.size := by simp
  generalize w.alloc (.cells #[.slice A n c, .int .i64 0] 45) = w0 at *
  refine (Edits A A' c c' n m B a b w0 HN.out HM.out hnc hmc hln hlm (Nat.le_trans hB hw0.size) (hR.below (hw0.mono hB)) (hR'.below (hw0.mono hB))).mono ?_
  have hap := edits_appl a b
  obtain ⟨es, hes⟩ : ∃ es, edits a b = es := ⟨_, rfl⟩
  rw [hes] at hap ⊢
  obtain ⟨N, hN⟩ : ∃ N, es.length = N := ⟨_, rfl⟩
  have hNle := edits_len_le a b
  rw [hes, hN, HN.out, HM.out] at hNle
  have HES := Lib.hid hes; clear hes
  rintro e w1 ⟨A1, c1, rfl, hc1, hE, hb1⟩
  rw [hN] at hc1 ⊢
  have HW1 := Lib.hid (hw0.trans (hb1.mono hw0.size))
  have I0 : OInv w1 w.heap.size A n c a b es 0 0 [] (.slice none 0 0) w1 := ⟨⟨[], World.ownsRow_nil _ _ _ _, hcells_nil _ _ _⟩, rfl, hb0.below hb1 hs0, World.grownBy.refl _ _, rfl, 0, true, [], b, hap, rfl, rfl, Nat.zero_le _⟩
  have HE := Lib.hid hE; have HI0 := Lib.hid I0; have HNN := Lib.hid hN
  have HR1 := Lib.hid (Rd.below hR (HW1.out.mono hB))
  have HB1 := Lib.hid (hb0.below hb1 hs0)
  clear hb0 hw0 hs0 hap hN hE hb1 I0 hR hR'
  obtain ⟨mb, hmb⟩ : ∃ mb, w.heap.size = mb := ⟨_, rfl⟩
  rw [hmb] at HW1 HI0 HB1 hB ⊢
  have HMB := Lib.hid hmb; clear hmb
  have HMW : Hid (mb ≤ w1.heap.size) := Lib.hid (Nat.le_of_lt HB1.out.lt)
  go_wp2_with fail
  go_loopw [7, 17] (fun v7 v17 wr => ∃ (k : Nat) (mv : Int) (pre : List HU), k ≤ N ∧ v17 = .int .i64 (k : Int) ∧ OInv w1 mb A n c a b es k mv pre v7 wr) (fun _ v17 _ => N - (intOf v17).toNat)
  case atStart => exact ⟨0, 0, [], Nat.zero_le _, rfl, HI0.out⟩
  case round =>
    obtain ⟨k, mv, pre, hk, rfl, I⟩ := hrel
    by_cases hlt : k < N
    · have hkl : k < es.length := by rw [HNN.out]; exact hlt
      have heq := I.eq
      obtain ⟨k0, f, u, r0, hap, hur, hul, hk0⟩ := I.at_
      rw [hunk_drop hkl] at heq hap
      have hE := rdE_gr HB1.out (keep_gr I.fr (Nat.le_refl _) (fun k e => .inl (by injection e with e; exact e.symm))) HE.out
      have HD := Lib.hid hur
      obtain ⟨pa, rfl, hpa, hat⟩ := hE.at_ hkl
      obtain ⟨c0', c1', ⟨A3, c3, k3, hc3, hR3⟩, _, _, hl3⟩ := hat
      generalize es[k] = x at *
      obtain ⟨p, o, l⟩ := x
      obtain ⟨⟨z1, z2, z3, z4, z5⟩, r, hap2, hr0⟩ := apl_some hap
      simp only at c0' c1' k3 hc3 hR3 hl3 z1 z3 z4 z5 hap2 hr0
      obtain ⟨p, rfl⟩ : ∃ q : Nat, p = q := ⟨p.toNat, by omega⟩
      obtain ⟨o, rfl⟩ : ∃ q : Nat, o = q := ⟨o.toNat, by omega⟩
      obtain ⟨ll, hll⟩ : ∃ ll, l.length = ll := ⟨_, rfl⟩
      rw [HN.out] at z3 z5
      have hblen := congrArg List.length hur
      rw [hr0, HM.out] at hblen
      simp only [List.length_append, hll] at hblen
      rw [hll] at k3 hc3 hl3
      have hpo : p + o ≤ n := by omega
      have hll2 : ll ≤ 1000 := by omega
      have hmv1 : -1000000 ≤ mv := by rw [HN.out] at hk0; omega
      have hmv2 : mv ≤ 1000000 := by omega
      have t1 : (k : Int) < (N : Int) := by omega
      have t2 : (0 : Int) ≤ (k : Int) := by omega
      have HI := Lib.hid I; have HEQ := Lib.hid heq; have HAP2 := Lib.hid hap2; have HR0 := Lib.hid hr0; have HLL := Lib.hid hll; have HUL := Lib.hid hul; have HKP : Hid (k0 ≤ p) := Lib.hid (by omega); have HR3 := Lib.hid hR3; have HPA := Lib.hid hpa
      clear I heq hap hap2 hr0 hll hur hblen hul hR3 hE z1 z2 z3 z4 z5 hpa
      go_wp2_with fail
      refine (next mb A n c mv p o A3 ll c3 B a _ (Nat.le_trans hB (Nat.le_trans HMW.out (Nat.le_trans HI.out.fr.size (by simp)))) (HI.out.blk.alloc _) HN.out hnc hln (rd_alloc (rdS_gr HB1.out (fun k hk hne => HI.out.fr.block k (by have := HMW.out; omega) (fun e => hne (by injection e))) HR1.out) (Nat.le_trans hB (Nat.le_trans HMW.out HI.out.fr.size)) _) hpo hll2 hmv1 hmv2).mono ?_
      rintro e w2 ⟨D1, k1, rfl, hr2, hM2, hg2⟩
      obtain ⟨xs, hrow, hH⟩ := HI.out.row
      have hrowa := own_gr hrow (World.grownBy_alloc wr (.cells #[.int .i64 (p : Int), .int .i64 (o : Int), .slice A3 ll c3] 50) none)
      have hrow2 := hrowa.kept hg2 (.inr fun e => (HI.out.blk.alloc _).not_row (by decide) hrowa e.symm)
      have hrow3 := own_gr hrow2 (World.grownBy_alloc w2 (.cells #[.int .i64 ((p : Int) + mv), .slice D1 o k1, .slice A3 ll c3] 24) none)
      have f2 : k + 1 ≤ maxLen := by unfold maxLen; omega
      have f3 : (k + 1) * 56 ≤ 140737488355328 := by omega
      have hsz2 : w1.heap.size ≤ w2.heap.size := Nat.le_trans HI.out.fr.size (Nat.le_trans (by simp) hg2.size)
      have hst := fun (w4 : World) (v' : Value) => ostep (w4 := w4) (v' := v') (ob := .cells #[.int .i64 ((p : Int) + mv), .slice D1 o k1, .slice A3 ll c3] 24) HI.out hrow hH HB1.out.lt HEQ.out HAP2.out HR0.out HD.out HUL.out HKP.out HN.out hpo hln HLL.out hll2 hmv1 hmv2 hc3 HR3.out hr2 hM2 hg2
      have HST := Lib.hid hst; have HROW3 := Lib.hid hrow3; have HSZ2 := Lib.hid hsz2
      clear hst hrow hH hrowa hrow2 hrow3 hr2 hM2 hg2 hsz2
      go_wp2_with (at_builtin; refine wpList_append_lies _ rfl (.tmp 21) (.tmp 25) 36 rfl w1.heap.size 24 i0 _ 3 56 Try.underlying36 hi0 hz0 hz1 hz2 rfl (by decide) u7 k xs rfl HROW3.out ⟨w2.heap.size, 0, none⟩ 1 1 [.int .i64 ((p : Int) + mv), .slice D1 o k1, .slice A3 ll c3] rfl rfl (World.news_of_block (cs := #[.int .i64 ((p : Int) + mv), .slice D1 o k1, .slice A3 ll c3]) (t := 24) (fr := (0, 0)) (heap_alloc_new w2 _)) (by simp [Value.oneCell']) (by decide) f2 f3 (Nat.le_trans HSZ2.out (by simp)) (w2.heap.size + 1) (by simp) ?_; intro gg cap w4 hown2 hgrow hat4 hlt4)
      have hI4 := HST.out w4 _ hown2 hgrow
      go_roundw
      case rel => exact ⟨k + 1, _, _, by omega, by go_num, hI4⟩
      case measure => simp [intOf]; omega
    · obtain rfl : k = N := by omega
      have heq := I.eq
      rw [List.drop_of_length_le (by rw [HNN.out]; exact Nat.le_refl _), hks, List.append_nil] at heq
      obtain ⟨xs, hrow, hH⟩ := I.row
      obtain ⟨Ar, cr, rfl, hcr, hrd⟩ := rdH_own hrow hH I.len I.fr.size
      have hlen := I.len
      rw [heq] at hrd hlen
      have hfr := I.fr
      clear I hrow hH heq hlt
      have HF : Hid (Below mb w wr) := Lib.hid ⟨hfr.os.trans HW1.out.os, hfr.tape.trans HW1.out.tape, hfr.output.trans HW1.out.output, Nat.le_trans HW1.out.size hfr.size, fun k hk => (hfr.block k (by have := HMW.out; omega) (fun e => by injection e; omega)).trans (HW1.out.block k hk)⟩
      have HLEN := Lib.hid hlen; have HRD := Lib.hid hrd
      clear hfr hlen hrd
      go_wp2
      go_ret
      exact ⟨Ar, cr, by rw [HES.out, HLEN.out]; rfl, by rw [HES.out, HLEN.out]; exact hcr, by rw [HES.out]; exact HRD.out, by rw [HMB.out]; exact HF.out⟩

end Hk
end Go.Proofs.Ytkpgkbllcdpobaa

namespace Go.Proofs.Ytkpgkbllcdpobaa
open Go.RowKit
set_option linter.unusedVariables false
namespace Lc
open Tx

theorem rd_new (w : World) (ls : List (List UInt8)) (fr : Nat × Nat) : RdS (w.alloc (.cells (ls.map strV).toArray 9 fr)) (w.alloc (.cells (ls.map strV).toArray 9 fr)).heap.size (some ⟨w.heap.size, 0, none⟩) ls := by
  refine .inr ⟨_, rfl, by simp, fun j u hu => ?_⟩
  have h := World.alloc_heap_new w (.cells (ls.map strV).toArray 9 fr)
  have e : (⟨w.heap.size, 0, none⟩ : Addr).add j = ⟨w.heap.size, j, none⟩ := by unfold Addr.add; split <;> simp_all
  rw [e]
  unfold World.cell?
  rw [h]
  simpa using hu
theorem rd_old {w : World} {B : Nat} {A : Option Addr} {ls : List (List UInt8)} (h : RdS w B A ls) (hB : B ≤ w.heap.size) (o : Obj) : RdS (w.alloc o) (w.alloc o).heap.size A ls :=
  Rd.up (h.below ((Below.refl _ _).alloc hB _)) (by simp; omega)

end Lc
end Go.Proofs.Ytkpgkbllcdpobaa

namespace Go.Proofs.Ytkpgkbllcdpobaa
open Go.RowKit
set_option linter.unusedVariables false
namespace Hk
open Tx Df Lc

theorem ex_hks : hks ([[97], [98], [99]] : List (List UInt8)) 0 (edits [[97], [98], [99]] [[120], [97], [99]]) = [⟨0, [], [[120]]⟩, ⟨2, [[98]], []⟩] := by
  simp [edits, ends, eds, one, pairs, prs, lcs, mid, hks]
theorem ex_may : mayH ⟨0, [], [[120]]⟩ = true := by decide
theorem ex_same : sameH ⟨0, [], [[120]]⟩ ⟨2, [[98]], []⟩ = false := by decide

set_option maxRecDepth 100000 in
set_option maxHeartbeats 4000000 in
theorem awake (w : World) : Calls Try.prog 8 #[] w fun e w' => e = .returned (.bool true) ∧ Below w.heap.size w w' := by
  go_enter Try.func8, Try.ntmps8
  go_wp2_with fail
  obtain ⟨o0, ho0⟩ : ∃ o : Obj, o = .cells #[.string ⟨#[97]⟩, .string ⟨#[98]⟩, .string ⟨#[99]⟩] 9 (0, 0) := ⟨_, rfl⟩
  obtain ⟨o1, ho1⟩ : ∃ o : Obj, o = .cells #[.string ⟨#[120]⟩, .string ⟨#[97]⟩, .string ⟨#[99]⟩] 9 (0, 0) := ⟨_, rfl⟩
  have r0 : RdS (w.alloc o0) (w.alloc o0).heap.size (some ⟨w.heap.size, 0, none⟩) [[97], [98], [99]] := by subst ho0; exact rd_new w [[97], [98], [99]] (0, 0)
  have r1 : RdS ((w.alloc o0).alloc o1) ((w.alloc o0).alloc o1).heap.size (some ⟨w.heap.size + 1, 0, none⟩) [[120], [97], [99]] := by
    have e1 : (w.alloc o0).heap.size = w.heap.size + 1 := by simp
    subst ho1; rw [← e1]; exact rd_new (w.alloc o0) [[120], [97], [99]] (0, 0)
  have r01 := rd_old r0 (Nat.le_refl _) o1
  have hb0 : Below w.heap.size w ((w.alloc o0).alloc o1) := ((Below.refl _ _).alloc (Nat.le_refl _) _).alloc (by simp) _
  rw [← ho0, ← ho1]
  refine (Of _ _ 3 3 3 3 _ _ _ _ rfl rfl (Nat.le_refl _) (Nat.le_refl _) (by decide) (by decide) (Nat.le_refl _) r01 r1).mono ?_
  rw [ex_hks]
  rintro e w1 ⟨A, c, rfl, hc, hH, hb1⟩
  have hbw := hb0.trans (hb1.mono hb0.size)
  clear r0 r1 r01 ho0 ho1 hb1 hb0
  simp only [List.length_cons, List.length_nil] at hc ⊢
  obtain ⟨g, rfl, hg, hx⟩ := hH.at_ (k := 0) (by decide)
  obtain ⟨g', hg', _, hy⟩ := hH.at_ (k := 1) (by decide)
  injection hg' with hg'; subst hg'
  obtain ⟨c0, A1, k1, A2, k2, c1, c2, v1⟩ := hx
  obtain ⟨d0, D1, j1, D2, j2, d1, d2, v2⟩ := hy
  obtain ⟨q, rfl, _, hq⟩ := v2.r.at_ (k := 0) (by decide)
  simp only [Nat.zero_mul, add_zero', Nat.one_mul, List.getElem_cons_zero, List.getElem_cons_succ, List.length_cons, List.length_nil, List.map_cons, Nat.zero_add] at hc c0 c1 c2 d0 d1 d2 hq v1 v2
  change w1.cell? ⟨g.block, g.off + 3, none⟩ = _ at d0
  change w1.cell? ⟨g.block, g.off + 3 + 1, none⟩ = _ at d1
  change w1.cell? ⟨g.block, g.off + 3 + 2, none⟩ = _ at d2
  have HM : Hid (∀ W, Below w1.heap.size w1 W → Calls Try.prog 18 #[hkV 0 A1 0 k1 A2 1 k2] W (TestEnd W true)) := Lib.hid (fun W hb => by
    have := May A1 0 k1 A2 1 k2 w1.heap.size ⟨0, [], [[120]]⟩ W hb.size (v1.below hb)
    rw [ex_may] at this; exact this)
  have HS : Hid (∀ W, Below w1.heap.size w1 W → Calls Try.prog 19 #[hkV 0 A1 0 k1 A2 1 k2, hkV 2 (some q) 1 j1 D2 0 j2] W (TestEnd W false)) := Lib.hid (fun W hb => by
    have := SameH A1 0 k1 A2 1 k2 (some q) 1 j1 D2 0 j2 w1.heap.size ⟨0, [], [[120]]⟩ ⟨2, [[98]], []⟩ W hb.size (v1.below hb) (v2.below hb)
    rw [ex_same] at this; exact this)
  have hq0 : w1.cell? q = some (.string ⟨#[98]⟩) := hq
  have hq1 : q.block < w1.heap.size := World.block_lt_of_cell? w1 q hq
  have HC : Hid (∀ W, Below w1.heap.size w1 W → W.cell? g = some (.int .i64 0) ∧ W.cell? ⟨g.block, g.off + 1, none⟩ = some (.slice A1 0 k1) ∧ W.cell? ⟨g.block, g.off + 2, none⟩ = some (.slice A2 1 k2) ∧ W.cell? ⟨g.block, g.off + 3, none⟩ = some (.int .i64 2) ∧
      W.cell? ⟨g.block, g.off + 3 + 1, none⟩ = some (.slice (some q) 1 j1) ∧ W.cell? ⟨g.block, g.off + 3 + 2, none⟩ = some (.slice D2 0 j2) ∧ W.cell? q = some (.string ⟨#[98]⟩)) := Lib.hid (fun W hb => by
    exact ⟨(hb.cell hg).trans c0, (hb.cell (p := ⟨g.block, g.off + 1, none⟩) hg).trans c1, (hb.cell (p := ⟨g.block, g.off + 2, none⟩) hg).trans c2, (hb.cell (p := ⟨g.block, g.off + 3, none⟩) hg).trans d0, (hb.cell (p := ⟨g.block, g.off + 3 + 1, none⟩) hg).trans d1, (hb.cell (p := ⟨g.block, g.off + 3 + 2, none⟩) hg).trans d2, (hb.cell hq1).trans hq0⟩)
  have HB := Lib.hid hbw
  clear v1 v2 hH hbw hg hq hq1
  go_wp2_with fail
  go_region_held3 (fun W => W.cell? g = some (.int .i64 0) ∧ W.cell? ⟨g.block, g.off + 1, none⟩ = some (.slice A1 0 k1) ∧ W.cell? ⟨g.block, g.off + 2, none⟩ = some (.slice A2 1 k2) ∧ W.cell? ⟨g.block, g.off + 3, none⟩ = some (.int .i64 2) ∧
      W.cell? ⟨g.block, g.off + 3 + 1, none⟩ = some (.slice (some q) 1 j1) ∧ W.cell? ⟨g.block, g.off + 3 + 2, none⟩ = some (.slice D2 0 j2) ∧ W.cell? q = some (.string ⟨#[98]⟩))
    (first
      | go_keep
      | (exact hS2)
      | (exact hS3))
    (first
      | (go_at_call 18; refine (HM.out w1.drew (below_drewN (Below.refl _ _) 1)).mono ?_; rintro e w2 ⟨rfl, hb2⟩; have hb12 := (below_drewN (Below.refl w1.heap.size w1) 1).trans hb2; have hS2 := HC.out w2 hb12; have HB2 := Lib.hid hb12; clear hb2 hb12)
      | (go_at_call 19; refine (HS.out w2 HB2.out).mono ?_; rintro e w3 ⟨rfl, hb3⟩; have hb13 := HB2.out.trans (hb3.mono HB2.out.size); have hS3 := HC.out w3 hb13; have HB3 := Lib.hid hb13; clear hb3 hb13))
  go_wp2
  go_ret
  exact ⟨rfl, HB.out.trans (HB3.out.mono HB.out.size)⟩

end Hk
end Go.Proofs.Ytkpgkbllcdpobaa

namespace Go.Proofs.Ytkpgkbllcdpobaa
open Go.RowKit
set_option linter.unusedVariables false
namespace Lc
open Tx Rg

theorem info_ints : (Try.prog.info? 69).map (fun i => (i.zero, i.size, i.bytes)) = some (some (.slice none 0 0), 1, 24) := by kernel_rfl

/-- A row of zeros. -/
def zeroV (m : Nat) : List Value := List.replicate (m + 1) (.int .i64 0)
section
variable {α : Type} [DecidableEq α]
/-- A row on its way: zeros ahead of place k. -/
def partV (a b : List α) (i k : Nat) : List Value := (List.range (b.length + 1)).map fun j => if j < k then .int .i64 0 else .int .i64 ((tab a b i j : Nat) : Int)
theorem partV_length (a b : List α) (i k : Nat) : (partV a b i k).length = b.length + 1 := by simp [partV]
theorem partV_at (a b : List α) (i k : Nat) {j : Nat} (h : j ≤ b.length) : (partV a b i k)[j]? = some (if j < k then .int .i64 0 else .int .i64 ((tab a b i j : Nat) : Int)) := by
  rw [partV, List.getElem?_map, List.getElem?_range (by omega)]; rfl
theorem partV_top (a b : List α) (i : Nat) : partV a b i b.length = zeroV b.length := by
  refine List.ext_getElem? fun j => ?_
  by_cases hj : j ≤ b.length
  · rw [partV_at _ _ _ _ hj, zeroV, List.getElem?_replicate, if_pos (show j < b.length + 1 by omega)]
    by_cases h : j < b.length
    · rw [if_pos h]
    · rw [if_neg h, tab_end_right _ (by omega)]; rfl
  · rw [List.getElem?_eq_none (by rw [partV_length]; omega), List.getElem?_eq_none (by simp [zeroV]; omega)]
theorem partV_zero (a b : List α) (i : Nat) : partV a b i 0 = rowV (a.drop i) b := by
  unfold partV rowV
  refine List.map_congr_left fun j _ => ?_
  rw [if_neg (by omega)]; rfl
theorem partV_set (a b : List α) (i : Nat) {k : Nat} (h : k < b.length) : (partV a b i (k + 1)).set k (.int .i64 ((tab a b i k : Nat) : Int)) = partV a b i k := by
  refine List.ext_getElem? fun j => ?_
  rw [List.getElem?_set]
  by_cases hj : j ≤ b.length
  · rw [partV_at _ _ _ _ hj, partV_at _ _ _ _ hj]
    by_cases e : k = j
    · subst e; rw [if_pos rfl, if_pos (by rw [partV_length]; omega), if_neg (by omega)]
    · rw [if_neg e]
      by_cases hlt : j < k
      · rw [if_pos hlt, if_pos (by omega)]
      · rw [if_neg hlt, if_neg (by omega)]
  · rw [if_neg (by omega), List.getElem?_eq_none (by rw [partV_length]; omega), List.getElem?_eq_none (by rw [partV_length]; omega)]
theorem rowV_end (a b : List α) {i : Nat} (h : a.length ≤ i) : rowV (a.drop i) b = zeroV b.length := by
  rw [List.drop_of_length_le h, rowV_nil]; rfl
end

/-- The value of row i. -/
abbrev refRow (z m i : Nat) : Value := .slice (some ⟨z + 1 + i, 0, none⟩) (m + 1) (m + 1)
abbrev refTab (z n : Nat) : Value := .slice (some ⟨z, 0, none⟩) (n + 1) (n + 1)
/-- The document's table in memory, from block z on: its rows are f 0 to f n. -/
def TabM (z n m : Nat) (f : Nat → List Value) (W : World) : Prop :=
  W.ownsRow z 69 1 (refTab z n) (n + 1) ((List.range (n + 1)).map (refRow z m)) ∧ ∀ i, i ≤ n → W.ownsRow z 3 1 (refRow z m i) (m + 1) (f i)

theorem TabM.top {z n m : Nat} {f : Nat → List Value} {W : World} (h : TabM z n m f W) {i : Nat} (hi : i ≤ n) : W.cell? ⟨z, i, none⟩ = some (refRow z m i) := by
  rw [h.1.cellAt i (by omega), List.getElem?_map, List.getElem?_range (by omega)]; rfl
theorem TabM.at_ {z n m : Nat} {f : Nat → List Value} {W : World} (h : TabM z n m f W) {i j : Nat} (hi : i ≤ n) (hj : j ≤ m) : W.cell? ⟨z + 1 + i, j, none⟩ = (f i)[j]? := (h.2 i hi).cellAt j (by omega)
theorem TabM.fz {z n m : Nat} {f : Nat → List Value} {W : World} (h : TabM z n m f W) {i : Nat} (j : Nat) (hi : i ≤ n) : W.frozen? ⟨z + 1 + i, j, none⟩ = false := (h.2 i hi).frozenAt j
theorem TabM.congr {z n m : Nat} {f f' : Nat → List Value} {W : World} (h : TabM z n m f W) (e : ∀ i, i ≤ n → f i = f' i) : TabM z n m f' W := ⟨h.1, fun i hi => e i hi ▸ h.2 i hi⟩
/-- A store into a row. -/
theorem TabM.set {z n m : Nat} {f f' : Nat → List Value} {W : World} (h : TabM z n m f W) {i j : Nat} (hi : i ≤ n) (u : Value) (e : f' i = (f i).set j u) (e' : ∀ k, k ≤ n → k ≠ i → f' k = f k) :
    TabM z n m f' (W.setCell ⟨z + 1 + i, j, none⟩ u) := by
  obtain ⟨h1, h2⟩ := (h.2 i hi).stored j u
  refine ⟨h.1.kept h2 (.inr (by simp [Value.ownBlock]; omega)), fun k hk => ?_⟩
  by_cases hki : k = i
  · subst hki; rw [e]; exact h1
  · rw [e' k hk hki]; exact (h.2 k hk).kept h2 (.inr (by simp [Value.ownBlock]; omega))

/-- The table after some rows have been made. -/
def TabI (z n m q : Nat) (W : World) : Prop :=
  W.heap.size = z + 1 + q ∧ (∃ tv : List Value, W.ownsRow z 69 1 (refTab z n) (n + 1) tv ∧ ∀ i, i < q → tv[i]? = some (refRow z m i)) ∧ ∀ i, i < q → W.ownsRow z 3 1 (refRow z m i) (m + 1) (zeroV m)
theorem tabI_done {z n m : Nat} {W : World} (h : TabI z n m (n + 1) W) : TabM z n m (fun _ => zeroV m) W := by
  obtain ⟨_, ⟨tv, h1, h2⟩, h3⟩ := h
  have e : tv = (List.range (n + 1)).map (refRow z m) := by
    refine List.ext_getElem? fun i => ?_
    by_cases hi : i < n + 1
    · rw [h2 i hi, List.getElem?_map, List.getElem?_range hi]; rfl
    · rw [List.getElem?_eq_none (by have := h1.1; omega), List.getElem?_eq_none (by simp; omega)]
  exact ⟨e ▸ h1, fun i hi => h3 i (by omega)⟩
theorem tabI_next {z n m q : Nat} {W : World} {cz : Array Value} (h : TabI z n m q W) (hq : q ≤ n) (hm : m ≤ 1000) (hcz : cz.toList = zeroV m) : TabI z n m (q + 1) ((W.alloc (.cells cz 3)).setCell ⟨z, q, none⟩ (.slice (some ⟨W.heap.size, 0, none⟩) (m + 1) (m + 1))) := by
  obtain ⟨hs, ⟨tv, h1, h2⟩, h3⟩ := h
  have hl : cz.size = m + 1 := by rw [← Array.length_toList, hcz]; simp [zeroV]
  have hn := World.ownsRow_lit (base := z) (e := 3) (size := 1) W cz (m + 1) (by omega) (by unfold maxLen; omega) (by omega)
  obtain ⟨h4, h5⟩ := (h1.alloc (.cells cz 3)).stored q (.slice (some ⟨W.heap.size, 0, none⟩) (m + 1) (m + 1))
  rw [hcz] at hn
  refine ⟨by rw [World.size_setCell, World.size_alloc]; omega, ⟨_, h4, fun i hi => ?_⟩, fun i hi => ?_⟩
  · rw [List.getElem?_set]
    by_cases e : q = i
    · subst e; rw [if_pos rfl, if_pos (by have := h1.1; omega)]; rw [hs]
    · rw [if_neg e]; exact h2 i (by omega)
  · by_cases e : i = q
    · subst e
      unfold refRow
      rw [← hs]
      exact hn.kept h5 (.inr (by simp [Value.ownBlock]; omega))
    · exact ((h3 i (by omega)).alloc _).kept h5 (.inr (by simp [Value.ownBlock]; omega))

/-- How Table ends. -/
def TableEnd (w : World) (n m : Nat) (a b : List (List UInt8)) (e : Ending) (w' : World) : Prop :=
  e = .returned (refTab w.heap.size n) ∧ TabM w.heap.size n m (fun i => rowV (a.drop i) b) w' ∧ Below w.heap.size w w'

/-- The rows when those from place k on are over, and, of row k - 1, the places from j on. -/
def fillV (a b : List (List UInt8)) (m k : Nat) (i : Nat) : List Value := if i < k then zeroV m else rowV (a.drop i) b
def fillV' (a b : List (List UInt8)) (m k j : Nat) (i : Nat) : List Value := if i < k then zeroV m else if i = k then partV a b i j else rowV (a.drop i) b

theorem fill_start {a b : List (List UInt8)} {n m : Nat} (hn : a.length = n) (hm : b.length = m) : ∀ i, i ≤ n → (fun _ : Nat => zeroV m) i = fillV a b m n i := by
  intro i hi
  unfold fillV
  by_cases h : i < n
  · rw [if_pos h]
  · rw [if_neg h, rowV_end _ _ (by omega), hm]
theorem fill_row {a b : List (List UInt8)} {n m k : Nat} (hm : b.length = m) : ∀ i, i ≤ n → fillV a b m (k + 1) i = fillV' a b m k m i := by
  intro i hi
  unfold fillV fillV'
  by_cases h : i < k
  · rw [if_pos h, if_pos (by omega)]
  · rw [if_neg h]
    by_cases e : i = k
    · rw [if_pos e, if_pos (by omega), ← hm, partV_top]
    · rw [if_neg e, if_neg (by omega)]
theorem fill_end {a b : List (List UInt8)} {n m k : Nat} : ∀ i, i ≤ n → fillV' a b m k 0 i = fillV a b m k i := by
  intro i hi
  unfold fillV fillV'
  by_cases h : i < k
  · rw [if_pos h, if_pos h]
  · rw [if_neg h, if_neg h]
    by_cases e : i = k
    · rw [if_pos e, partV_zero]
    · rw [if_neg e]
theorem fill_done {a b : List (List UInt8)} {n m : Nat} : ∀ i, i ≤ n → fillV a b m 0 i = rowV (a.drop i) b := by
  intro i hi
  unfold fillV
  rw [if_neg (by omega)]
theorem fill_next {a b : List (List UInt8)} {z n m k j : Nat} {W : World} (h : TabM z n m (fillV' a b m k (j + 1)) W) (hk : k ≤ n) (hm : b.length = m) (hj : j < m) {q : Int} (hq : q = ((tab a b k j : Nat) : Int)) : TabM z n m (fillV' a b m k j) (W.setCell ⟨z + 1 + k, j, none⟩ (.int .i64 q)) := by
  subst hq
  refine h.set hk _ ?_ fun i hi hne => ?_
  · unfold fillV'
    rw [if_neg (Nat.lt_irrefl _), if_pos rfl, if_neg (Nat.lt_irrefl _), if_pos rfl, partV_set _ _ _ (by omega)]
  · unfold fillV'
    rw [if_neg hne, if_neg hne]

set_option maxRecDepth 100000 in
set_option maxHeartbeats 4000000 in
theorem refTable (A A' : Option Addr) (c c' n m B : Nat) (a b : List (List UInt8)) (w : World) (hn : a.length = n) (hm : b.length = m) (hln : n ≤ 1000) (hlm : m ≤ 1000) (hB : B ≤ w.heap.size) (hR : RdS w B A a) (hR' : RdS w B A' b) :
    Calls Try.prog 46 #[.slice A n c, .slice A' m c'] w (TableEnd w n m a b) := by
  obtain ⟨j0, hj, hy0, hy1, hy2⟩ := info_parts info_ints
  obtain ⟨k0, hk, hz0, hz1, hz2⟩ := info_parts info_int
  have HM := Lib.hid hm; clear hm
  have HN := Lib.hid hn; clear hn
  have hmk : ∀ W : World, (Instr.makeSlice 67 (.int .i64 ((n : Int) + 1)) (.int .i64 ((n : Int) + 1))).run Try.prog W = .ok (.slice (some ⟨W.heap.size, 0, none⟩) (n + 1) (n + 1)) (W.alloc (.cells (madeCells #[.slice none 0 0] (n + 1)) 69)) := by
    intro W
    have := run_makeSlice (P := Try.prog) W 67 69 j0 (.slice none 0 0) Try.underlying67 hj hy0 .i64 .i64 ((n : Int) + 1) ((n : Int) + 1) (by omega) (by omega) (by rw [hy1]; omega) (by rw [hy2]; omega) (by omega)
    rw [hy1, Nat.mul_one, show ((n : Int) + 1).toNat = n + 1 by omega] at this
    exact this
  have hmk2 : ∀ W : World, (Instr.makeSlice 69 (.int .i64 ((m : Int) + 1)) (.int .i64 ((m : Int) + 1))).run Try.prog W = .ok (.slice (some ⟨W.heap.size, 0, none⟩) (m + 1) (m + 1)) (W.alloc (.cells (madeCells (Value.int .i64 0).cells (m + 1)) 3)) := by
    intro W
    have := run_makeSlice (P := Try.prog) W 69 3 k0 (.int .i64 0) Try.underlying69 hk hz0 .i64 .i64 ((m : Int) + 1) ((m : Int) + 1) (by omega) (by omega) (by rw [hz1]; omega) (by rw [hz2]; omega) (by omega)
    rw [hz1, Nat.mul_one, show ((m : Int) + 1).toNat = m + 1 by omega] at this
    exact this
  have hcz := made_zero (m + 1)
  generalize madeCells (Value.int .i64 0).cells (m + 1) = cz at *
  have HCZ : Hid (cz.toList = zeroV m) := Lib.hid hcz
  clear hcz
  have hlen := size_madeCells #[Value.slice none 0 0] (n + 1)
  generalize madeCells #[Value.slice none 0 0] (n + 1) = tz at *
  have HTZ := Lib.hid hlen; clear hlen
  go_enter Try.func46, Try.ntmps46
  go_wp2
  go_loopw [6] (fun i wr => ∃ q : Nat, q ≤ n + 1 ∧ i = .int .i64 (q : Int) ∧ TabI w.heap.size n m q wr ∧ Below w.heap.size w wr) (fun i _ => n + 1 - (intOf i).toNat)
  case atStart =>
    refine ⟨0, Nat.zero_le _, rfl, ⟨by simp, ⟨tz.toList, World.ownsRow_lit w tz (n + 1) (Nat.le_refl _) (by unfold maxLen; omega) (by rw [HTZ.out]; omega), fun i hi => by omega⟩, fun i hi => by omega⟩, (Below.refl _ _).alloc (Nat.le_refl _) _⟩
  case round =>
    obtain ⟨q, hq, rfl, hI, hbr⟩ := hrel
    by_cases hqn : q ≤ n
    · obtain ⟨hs, ⟨tv, h1, h2⟩, h3⟩ := id hI
      have HI := Lib.hid (tabI_next hI hqn hlm HCZ.out)
      obtain ⟨old, hold⟩ : ∃ old, tv[q]? = some old := ⟨_, List.getElem?_eq_getElem (by have := h1.1; omega)⟩
      have hc := fun o => ((h1.alloc o).cellAt q (by omega)).trans hold
      have hf := fun o => (h1.alloc o).frozenAt q
      have hsz : w.heap.size ≤ wr.heap.size := by omega
      have hqi : (q : Int) ≤ (n : Int) := by omega
      clear hI hs h2 h3 hold
      go_wp2
      go_roundw
      case rel => exact ⟨q + 1, by omega, by go_num, HI.out, (hbr.alloc hsz _).setCell (p := ⟨w.heap.size, q, none⟩) (Nat.le_refl _) _⟩
      case measure => simp [intOf]; omega
    · obtain rfl : q = n + 1 := by omega
      have hT0 := tabI_done hI
      have hgt : ¬ ((n + 1 : Nat) : Int) ≤ (n : Int) := by omega
      clear hI hqn hmk hmk2
      go_wp2
      go_loopw [7] (fun i wr => ∃ k : Nat, k ≤ n ∧ i = .int .i64 ((k : Int) - 1) ∧ TabM w.heap.size n m (fillV a b m k) wr ∧ Below w.heap.size w wr) (fun i _ => (intOf i + 1).toNat)
      case atStart => exact ⟨n, Nat.le_refl _, rfl, hT0.congr (fill_start HN.out HM.out), hbr⟩
      case round =>
        clear hT0 hbr hgt
        obtain ⟨k, hk, rfl, hT, hb⟩ := hrel
        cases k with
        | zero =>
          have e : (((0 : Nat) : Int) - 1) = -1 := rfl
          rw [e]; clear e
          go_wp2
          go_ret
          exact ⟨rfl, hT.congr fill_done, hb⟩
        | succ k =>
          have e : (((k + 1 : Nat) : Int) - 1) = (k : Int) := by omega
          rw [e]; clear e
          go_wp2
          go_loopw [8] (fun jv wr => ∃ j : Nat, j ≤ m ∧ jv = .int .i64 ((j : Int) - 1) ∧ TabM w.heap.size n m (fillV' a b m k j) wr ∧ Below w.heap.size w wr) (fun jv _ => (intOf jv + 1).toNat)
          case atStart => exact ⟨m, Nat.le_refl _, rfl, hT.congr (fill_row HM.out), hb⟩
          case round =>
            clear hT hb
            obtain ⟨j, hj, rfl, hT, hb⟩ := hrel
            cases j with
            | zero =>
              have e : (((0 : Nat) : Int) - 1) = -1 := rfl
              rw [e]; clear e
              go_wp2
              go_roundw
              case rel => exact ⟨k, by omega, rfl, hT.congr fill_end, hb⟩
              case measure => simp [intOf]
            | succ j =>
              have e : (((j + 1 : Nat) : Int) - 1) = (j : Int) := by omega
              rw [e]; clear e
              have hka : k < a.length := by rw [HN.out]; omega
              have hjb : j < b.length := by rw [HM.out]; omega
              have hb0 : Below B w wr := hb.mono hB
              obtain ⟨pa, rfl, hca⟩ := RdS.at' (hR.below hb0) hka
              obtain ⟨pb, rfl, hcb⟩ := RdS.at' (hR'.below hb0) hjb
              have hrk : fillV' a b m k (j + 1) k = partV a b k (j + 1) := by unfold fillV'; rw [if_neg (Nat.lt_irrefl _), if_pos rfl]
              have hrk1 : fillV' a b m k (j + 1) (k + 1) = rowV (a.drop (k + 1)) b := by unfold fillV'; rw [if_neg (by omega), if_neg (by omega)]
              have t0 := hT.top (i := k) (by omega)
              have t1 := hT.top (i := k + 1) (by omega)
              have x0 := hT.at_ (i := k) (j := j) (by omega) (by omega)
              have x1 := hT.at_ (i := k) (j := j + 1) (by omega) (by omega)
              have y0 := hT.at_ (i := k + 1) (j := j) (by omega) (by omega)
              have y1 := hT.at_ (i := k + 1) (j := j + 1) (by omega) (by omega)
              have fz := hT.fz (i := k) j (by omega)
              rw [hrk, partV_at _ _ _ _ (by omega)] at x0 x1
              rw [hrk1, rowV_at _ _ (by omega)] at y0 y1
              rw [if_pos (by omega)] at x0
              rw [if_neg (by omega)] at x1
              change _ = some (Value.int .i64 ((tab a b (k + 1) j : Nat) : Int)) at y0
              change _ = some (Value.int .i64 ((tab a b (k + 1) (j + 1) : Nat) : Int)) at y1
              have HT := Lib.hid (fun (q : Int) (hq : q = ((tab a b k j : Nat) : Int)) (d : Nat) => fill_next (W := wr.drewN d) hT (by omega) HM.out (by omega) hq)
              have u1 := (tab_le a b (k + 1) (j + 1)).2
              have u2 := (tab_le a b (k + 1) j).2
              have u3 := (tab_le a b k (j + 1)).2
              rw [HM.out] at u1 u2 u3
              clear hT hrk hrk1
              obtain ⟨r0, hr0⟩ : ∃ r0, w.heap.size + 1 + k = r0 := ⟨_, rfl⟩
              obtain ⟨r1, hr1⟩ : ∃ r1, w.heap.size + 1 + (k + 1) = r1 := ⟨_, rfl⟩
              unfold refRow at t0 t1
              rw [hr0] at t0 x0 x1 fz HT
              rw [hr1] at t1 y0 y1
              have HB : ∀ (q : Value) (d : Nat), Below w.heap.size w ((wr.drewN d).setCell ⟨r0, j, none⟩ q) := fun q d => (below_drewN hb d).setCell (p := ⟨r0, j, none⟩) (by show w.heap.size ≤ r0; omega) q
              have HBB := Lib.hid HB; clear HB hr0 hr1
              have n1 : (k : Int) < (n : Int) := by omega
              have n2 : (j : Int) < (m : Int) := by omega
              have n3 : (k : Int) + 1 < (n : Int) + 1 := by omega
              have n4 : (j : Int) + 1 < (m : Int) + 1 := by omega
              have n5 : (k : Int) < (n : Int) + 1 := by omega
              have n6 : (j : Int) < (m : Int) + 1 := by omega
              have n7 : ((k : Int) + 1).toNat = k + 1 := by omega
              have n8 : ((j : Int) + 1).toNat = j + 1 := by omega
              have n9 : (0 : Int) ≤ (k : Int) + 1 := by omega
              have n10 : (0 : Int) ≤ (j : Int) + 1 := by omega
              have n11 : IntKind.i64.wrap ((k : Int) + 1) = (k : Int) + 1 := IntWalk.i64_in _ (by omega)
              have n12 : IntKind.i64.wrap ((j : Int) + 1) = (j : Int) + 1 := IntWalk.i64_in _ (by omega)
              by_cases hxy : a[k] = b[j]
              · have HV := Lib.hid (tab_same hka hjb hxy)
                have hbe : (a[k] == b[j]) = true := by simpa using hxy
                generalize a[k] = x at *
                generalize b[j] = y at *
                generalize tab a b (k + 1) (j + 1) = q1 at *
                generalize tab a b (k + 1) j = q2 at *
                generalize tab a b k (j + 1) = q3 at *
                have n13 : IntKind.i64.wrap ((q1 : Int) + 1) = (q1 : Int) + 1 := IntWalk.i64_in _ (by omega)
                clear hxy
                go_wp2
                go_quiet (fail)
                have s0 : (wr.drewN nq).cell? ⟨w.heap.size, k, none⟩ = _ := t0
                have s1 : (wr.drewN nq).cell? ⟨w.heap.size, k + 1, none⟩ = _ := t1
                have s2 : (wr.drewN nq).cell? ⟨r0, j, none⟩ = _ := x0
                have s3 : (wr.drewN nq).cell? ⟨r0, j + 1, none⟩ = _ := x1
                have s4 : (wr.drewN nq).cell? ⟨r1, j, none⟩ = _ := y0
                have s5 : (wr.drewN nq).cell? ⟨r1, j + 1, none⟩ = _ := y1
                have s6 : (wr.drewN nq).frozen? ⟨r0, j, none⟩ = _ := fz
                clear t0 t1 x0 x1 y0 y1 fz hca hcb
                generalize hwq : wr.drewN nq = wq at *
                have HWQ := Lib.hid hwq; clear hwq
                go_wp2
                go_still_tail 16, (by kernel_rfl)
                clear n1 n2 n3 n4 n5 n6 n7 n8 n9 n10 n11 n12 n13
                change wpList _ _ _ _ _ wq.drew
                go_wp2
                have e1 := HT.out ((q1 : Int) + 1) (by rw [HV.out]; simp) nq
                have e2 := (HBB.out (.int .i64 ((q1 : Int) + 1)) nq).drew
                rw [HWQ.out] at e1 e2
                go_roundw
                case rel => exact ⟨j, by omega, rfl, e1, e2⟩
                case measure => simp [intOf]
              · have HV := Lib.hid (tab_ne hka hjb hxy)
                have hbe : (a[k] == b[j]) = false := by simpa using hxy
                generalize a[k] = x at *
                generalize b[j] = y at *
                generalize tab a b (k + 1) (j + 1) = q1 at *
                generalize tab a b (k + 1) j = q2 at *
                generalize tab a b k (j + 1) = q3 at *
                clear hxy
                by_cases hge : q3 ≤ q2
                · have hd : decide (q3 ≤ q2) = true := by simpa using hge
                  have hv : tab a b k j = q2 := by rw [HV.out, if_pos hge]
                  have HW := Lib.hid hv; clear hv
                  go_wp2
                  go_quiet (fail)
                  go_wp2
                  refine wp_region_quiet_lit (by kernel_rfl) (by kernel_rfl) ?_
                  repeat (go_big_quiet_step (fail))
                  refine wpQuiet_nil ?_
                  intro _ hw'
                  obtain ⟨nq2, hw''⟩ := hw'
                  subst hw''
                  rw [World.drewN_drewN]
                  have s0 : (wr.drewN (nq + nq2)).cell? ⟨w.heap.size, k, none⟩ = _ := t0
                  have s1 : (wr.drewN (nq + nq2)).cell? ⟨w.heap.size, k + 1, none⟩ = _ := t1
                  have s2 : (wr.drewN (nq + nq2)).cell? ⟨r0, j, none⟩ = _ := x0
                  have s3 : (wr.drewN (nq + nq2)).cell? ⟨r0, j + 1, none⟩ = _ := x1
                  have s4 : (wr.drewN (nq + nq2)).cell? ⟨r1, j, none⟩ = _ := y0
                  have s5 : (wr.drewN (nq + nq2)).cell? ⟨r1, j + 1, none⟩ = _ := y1
                  have s6 : (wr.drewN (nq + nq2)).frozen? ⟨r0, j, none⟩ = _ := fz
                  clear t0 t1 x0 x1 y0 y1 fz hca hcb
                  generalize hwq : wr.drewN (nq + nq2) = wq at *
                  have HWQ := Lib.hid hwq; clear hwq
                  go_wp2
                  go_still_tail 14, (by kernel_rfl)
                  clear n1 n2 n3 n4 n5 n6 n7 n8 n9 n10 n11 n12
                  change wpList _ _ _ _ _ wq.drew
                  go_wp2
                  have e1 := HT.out (q2 : Int) (by rw [HW.out]) (nq + nq2)
                  have e2 := (HBB.out (.int .i64 (q2 : Int)) (nq + nq2)).drew
                  rw [HWQ.out] at e1 e2
                  go_roundw
                  case rel => exact ⟨j, by omega, rfl, e1, e2⟩
                  case measure => simp [intOf]
                · have hd : decide (q3 ≤ q2) = false := by simpa using hge
                  have hv : tab a b k j = q3 := by rw [HV.out, if_neg hge]
                  have HW := Lib.hid hv; clear hv
                  go_wp2
                  go_quiet (fail)
                  go_wp2
                  refine wp_region_quiet_lit (by kernel_rfl) (by kernel_rfl) ?_
                  repeat (go_big_quiet_step (fail))
                  refine wpQuiet_nil ?_
                  intro _ hw'
                  obtain ⟨nq2, hw''⟩ := hw'
                  subst hw''
                  rw [World.drewN_drewN]
                  have s0 : (wr.drewN (nq + nq2)).cell? ⟨w.heap.size, k, none⟩ = _ := t0
                  have s1 : (wr.drewN (nq + nq2)).cell? ⟨w.heap.size, k + 1, none⟩ = _ := t1
                  have s2 : (wr.drewN (nq + nq2)).cell? ⟨r0, j, none⟩ = _ := x0
                  have s3 : (wr.drewN (nq + nq2)).cell? ⟨r0, j + 1, none⟩ = _ := x1
                  have s4 : (wr.drewN (nq + nq2)).cell? ⟨r1, j, none⟩ = _ := y0
                  have s5 : (wr.drewN (nq + nq2)).cell? ⟨r1, j + 1, none⟩ = _ := y1
                  have s6 : (wr.drewN (nq + nq2)).frozen? ⟨r0, j, none⟩ = _ := fz
                  clear t0 t1 x0 x1 y0 y1 fz hca hcb
                  generalize hwq : wr.drewN (nq + nq2) = wq at *
                  have HWQ := Lib.hid hwq; clear hwq
                  go_wp2
                  go_still_tail 14, (by kernel_rfl)
                  clear n1 n2 n3 n4 n5 n6 n7 n8 n9 n10 n11 n12
                  change wpList _ _ _ _ _ wq.drew
                  go_wp2
                  have e1 := HT.out (q3 : Int) (by rw [HW.out]) (nq + nq2)
                  have e2 := (HBB.out (.int .i64 (q3 : Int)) (nq + nq2)).drew
                  rw [HWQ.out] at e1 e2
                  go_roundw
                  case rel => exact ⟨j, by omega, rfl, e1, e2⟩
                  case measure => simp [intOf]

end Lc
end Go.Proofs.Ytkpgkbllcdpobaa

namespace Go.Proofs.Ytkpgkbllcdpobaa
open Go.RowKit
set_option linter.unusedVariables false
namespace Lc
open Tx Rg

theorem TabM.lt {z n m : Nat} {f : Nat → List Value} {W : World} (h : TabM z n m f W) {i : Nat} (hi : i ≤ n) : z + 1 + i < W.heap.size := ((h.2 i hi).lt (z + 1 + i) rfl).2
theorem TabM.lt0 {z n m : Nat} {f : Nat → List Value} {W : World} (h : TabM z n m f W) : z < W.heap.size := (h.1.lt z rfl).2

/-- At the head of the loop of the document's Pairs. -/
def RefAt (w1 : World) (a b : List (List UInt8)) (n m : Nat) (v6 v7 v8 : Value) (wr : World) : Prop :=
  ∃ (i j : Nat) (dn : List (Nat × Nat)), i ≤ n ∧ j ≤ m ∧ v7 = .int .i64 (i : Int) ∧ v8 = .int .i64 (j : Int) ∧ wr.ownsRow w1.heap.size 60 2 v6 dn.length (cellsP dn) ∧ pairs a b = dn ++ rest a b i j ∧ Below w1.heap.size w1 wr

theorem own_form {W : World} {base size n : Nat} {e : TypeId} {v : Value} {xs : List Value} (h : W.ownsRow base e size v n xs) : ∃ A c, v = .slice A n c := by
  rcases h.2 with ⟨rfl, rfl⟩ | ⟨g, cap, cur, rfl, _⟩
  · exact ⟨none, 0, rfl⟩
  · exact ⟨_, _, rfl⟩
theorem own_drewN {W : World} {base size n : Nat} {e : TypeId} {v : Value} {xs : List Value} (h : W.ownsRow base e size v n xs) (d : Nat) : (W.drewN d).ownsRow base e size v n xs := h

set_option maxRecDepth 100000 in
set_option maxHeartbeats 4000000 in
theorem refPairs (A A' : Option Addr) (c c' n m B : Nat) (a b : List (List UInt8)) (w : World) (hn : a.length = n) (hm : b.length = m) (hln : n ≤ 1000) (hlm : m ≤ 1000) (hB : B ≤ w.heap.size) (hR : RdS w B A a) (hR' : RdS w B A' b) :
    Calls Try.prog 41 #[.slice A n c, .slice A' m c'] w (PairsEnd w (pairs a b)) := by
  obtain ⟨i0, hi, hz0, hz1, hz2⟩ := info_parts info_pair
  have HT := Lib.hid (refTable A A' c c' n m B a b w hn hm hln hlm hB hR hR')
  have hpl : (pairs a b).length ≤ 1000 := by rw [pairs_len]; have := (lcs_le a b).1; omega
  have HPL := Lib.hid hpl; clear hpl
  have HM := Lib.hid hm; clear hm
  have HN := Lib.hid hn; clear hn
  go_enter Try.func41, Try.ntmps41
  go_wp2_with fail
  refine HT.out.mono ?_
  rintro e w1 ⟨rfl, hT, hb⟩
  clear HT
  have hsz := hb.size
  go_wp2
  go_loopw [6, 7, 8] (fun v6 v7 v8 wr => RefAt w1 a b n m v6 v7 v8 wr) (fun _ v7 v8 _ => (n - (intOf v7).toNat) + (m - (intOf v8).toNat))
  case atStart => exact ⟨0, 0, [], Nat.zero_le _, Nat.zero_le _, rfl, rfl, World.ownsRow_nil _ _ _ _, by rw [List.nil_append, rest_zero], Below.refl _ _⟩
  case round =>
    obtain ⟨i, j, dn, hin, hjm, rfl, rfl, hrow, hpr, hbr⟩ := hrel
    obtain ⟨Av, cv, rfl⟩ := own_form hrow
    have HPR := Lib.hid hpr; clear hpr
    have hbw := hb.trans (hbr.mono hsz)
    have hsr := hbr.size
    by_cases hlt : i < n ∧ j < m
    · obtain ⟨hi1, hj1⟩ := hlt
      have hia : i < a.length := by rw [HN.out]; exact hi1
      have hjb : j < b.length := by rw [HM.out]; exact hj1
      obtain ⟨pa, rfl, hca⟩ := RdS.at' (hR.below (hbw.mono hB)) hia
      obtain ⟨pb, rfl, hcb⟩ := RdS.at' (hR'.below (hbw.mono hB)) hjb
      have hdn : dn.length ≤ 1000 := by have := HPL.out; rw [HPR.out] at this; simp at this; omega
      have n1 : (i : Int) < (n : Int) := by omega
      have n2 : (j : Int) < (m : Int) := by omega
      by_cases hxy : a[i] = b[j]
      · have hsp : pairs a b = dn ++ (i, j) :: rest a b (i + 1) (j + 1) := by rw [HPR.out, rest_same hia hjb hxy]
        have hd1 : dn.length + 1 ≤ 1000 := by have := HPL.out; rw [hsp] at this; simp at this; omega
        have HSP := Lib.hid hsp; clear hsp HPR
        have hbe : (a[i] == b[j]) = true := by simpa using hxy
        generalize a[i] = x at *
        generalize b[j] = y at *
        clear hxy
        go_wp2
        go_quiet (fail)
        go_wp2_with (at_builtin; refine wpList_append_own _ rfl (.tmp 31) (.tmp 35) 58 rfl w1.heap.size 60 i0 (.agg #[.int .i64 0, .int .i64 0]) 2 16 Try.underlying58 hi hz0 hz1 hz2 rfl (by decide) _ _ _ rfl ((own_drewN hrow nq).alloc _) ⟨wr.heap.size, 0, none⟩ 1 1 [.int .i64 (i : Int), .int .i64 (j : Int)] rfl rfl (cells2_new (wr.drewN nq) _ _ _) (by simp [Value.oneCell']) (by unfold maxLen; omega) (by omega) (by simp; omega) ?_; intro v' w2 hown' hgrow _; obtain ⟨g', cap', rfl⟩ := ownsRow_succ hown')
        have hb2 : Below w1.heap.size w1 w2 := ((below_drewN hbr nq).alloc hsr _).grown hgrow (by simp; omega) (own_ge hrow)
        go_roundw
        case rel => exact ⟨i + 1, j + 1, dn ++ [(i, j)], by omega, by omega, by go_num, by go_num, by rw [List.length_append, cellsP_snoc]; exact hown', by rw [HSP.out]; simp, hb2⟩
        case measure => simp [intOf]; omega
      · have t0 := (hbr.cell (p := ⟨w.heap.size, i, none⟩) hT.lt0).trans (hT.top (i := i) hin)
        have t1 := (hbr.cell (p := ⟨w.heap.size, i + 1, none⟩) hT.lt0).trans (hT.top (i := i + 1) hi1)
        have x1 := (hbr.cell (p := ⟨w.heap.size + 1 + i, j + 1, none⟩) (hT.lt hin)).trans (hT.at_ (i := i) (j := j + 1) hin hj1)
        have y0 := (hbr.cell (p := ⟨w.heap.size + 1 + (i + 1), j, none⟩) (hT.lt hi1)).trans (hT.at_ (i := i + 1) (j := j) hi1 hjm)
        rw [rowV_at _ _ (by omega)] at x1 y0
        change _ = some (Value.int .i64 ((tab a b i (j + 1) : Nat) : Int)) at x1
        change _ = some (Value.int .i64 ((tab a b (i + 1) j : Nat) : Int)) at y0
        unfold refRow at t0 t1
        obtain ⟨r0, hr0⟩ : ∃ r0, w.heap.size + 1 + i = r0 := ⟨_, rfl⟩
        obtain ⟨r1, hr1⟩ : ∃ r1, w.heap.size + 1 + (i + 1) = r1 := ⟨_, rfl⟩
        rw [hr0] at t0 x1
        rw [hr1] at t1 y0
        clear hr0 hr1
        have HR := Lib.hid (rest_ne hia hjb hxy)
        have u2 := (tab_le a b (i + 1) j).2
        have u3 := (tab_le a b i (j + 1)).2
        rw [HM.out] at u2 u3
        have hbe : (a[i] == b[j]) = false := by simpa using hxy
        generalize a[i] = x at *
        generalize b[j] = y at *
        generalize tab a b (i + 1) j = q2 at *
        generalize tab a b i (j + 1) = q3 at *
        clear hxy
        have n3 : (i : Int) + 1 < (n : Int) + 1 := by omega
        have n4 : (j : Int) + 1 < (m : Int) + 1 := by omega
        have n5 : (i : Int) < (n : Int) + 1 := by omega
        have n6 : (j : Int) < (m : Int) + 1 := by omega
        have n7 : ((i : Int) + 1).toNat = i + 1 := by omega
        have n8 : ((j : Int) + 1).toNat = j + 1 := by omega
        have n9 : (0 : Int) ≤ (i : Int) + 1 := by omega
        have n10 : (0 : Int) ≤ (j : Int) + 1 := by omega
        have n11 : IntKind.i64.wrap ((i : Int) + 1) = (i : Int) + 1 := IntWalk.i64_in _ (by omega)
        have n12 : IntKind.i64.wrap ((j : Int) + 1) = (j : Int) + 1 := IntWalk.i64_in _ (by omega)
        have HO : ∀ d, (wr.drewN d).ownsRow w1.heap.size 60 2 (.slice Av dn.length cv) dn.length (cellsP dn) := fun d => hrow
        have HOO := Lib.hid HO; clear HO
        by_cases hge : q3 ≤ q2
        · have hd : decide (q3 ≤ q2) = true := by simpa using hge
          have HRR : Hid (rest a b i j = rest a b (i + 1) j) := Lib.hid (by rw [HR.out, if_pos hge])
          go_wp2
          go_quiet (fail)
          go_wp2
          refine wp_region_quiet_lit (by kernel_rfl) (by kernel_rfl) ?_
          repeat (go_big_quiet_step (fail))
          refine wpQuiet_nil ?_
          intro _ hw'
          obtain ⟨nq2, hw''⟩ := hw'
          subst hw''
          rw [World.drewN_drewN]
          clear n1 n2 n3 n4 n5 n6 n7 n8 n9 n10 n11 n12
          go_wp2
          go_roundw
          case rel => exact ⟨i + 1, j, dn, by omega, by omega, by go_num, rfl, HOO.out _, by rw [HPR.out, HRR.out], below_drewN hbr _⟩
          case measure => simp [intOf]; omega
        · have hd : decide (q3 ≤ q2) = false := by simpa using hge
          have HRR : Hid (rest a b i j = rest a b i (j + 1)) := Lib.hid (by rw [HR.out, if_neg hge])
          go_wp2
          go_quiet (fail)
          go_wp2
          refine wp_region_quiet_lit (by kernel_rfl) (by kernel_rfl) ?_
          repeat (go_big_quiet_step (fail))
          refine wpQuiet_nil ?_
          intro _ hw'
          obtain ⟨nq2, hw''⟩ := hw'
          subst hw''
          rw [World.drewN_drewN]
          clear n1 n2 n3 n4 n5 n6 n7 n8 n9 n10 n11 n12
          go_wp2
          go_roundw
          case rel => exact ⟨i, j + 1, dn, by omega, by omega, rfl, by go_num, HOO.out _, by rw [HPR.out, HRR.out], below_drewN hbr _⟩
          case measure => simp [intOf]; omega
    · have hend : pairs a b = dn := by
        rw [HPR.out]
        by_cases e : i < n
        · rw [rest_end_right _ (by rw [HM.out]; have : ¬ j < m := fun h => hlt ⟨e, h⟩; omega), List.append_nil]
        · rw [rest_end_left _ (by rw [HN.out]; omega), List.append_nil]
      have HE : Hid (PairsEnd w (pairs a b) (.returned (.slice Av dn.length cv)) wr) := Lib.hid ⟨_, rfl, by rw [hend]; exact own_mono hrow hsz, hbw⟩
      clear hend hrow
      by_cases e : i < n
      · have e2 : ¬ j < m := fun h => hlt ⟨e, h⟩
        clear hlt
        go_wp2
        go_ret
        exact HE.out
      · clear hlt
        go_wp2
        go_ret
        exact HE.out

end Lc
end Go.Proofs.Ytkpgkbllcdpobaa

namespace Go.Proofs.Ytkpgkbllcdpobaa
open Go.RowKit
set_option linter.unusedVariables false
namespace Df
open Tx Lc

/-- What holds at the head of the loop of the document's Edits. -/
structure RInv (w : World) (h g : Nat) (a b : List (List UInt8)) (pl : List (Nat × Nat)) (k i j : Nat) (es : List E) (v : Value) (wr : World) : Prop where
  row : ∃ xs, wr.ownsRow h 50 3 v es.length xs ∧ ECells wr h es xs
  pb : PB wr g (pl ++ [(a.length, b.length)])
  bl : Below h w wr
  nx : k ≤ pl.length → Ris a b i j (pl.drop k) ∧ i ≤ a.length ∧ j ≤ b.length
  eq : es ++ eds b i j ((pl ++ [(a.length, b.length)]).drop k) = edits a b

theorem RInv.few {w : World} {h g : Nat} {a b : List (List UInt8)} {pl : List (Nat × Nat)} {k i j : Nat} {es : List E} {v : Value} {wr : World} (I : RInv w h g a b pl k i j es v wr) : es.length ≤ a.length + b.length := by
  have h1 := edits_len_le a b
  rw [← I.eq, List.length_append] at h1
  omega

/-- The next pair, or the end. -/
theorem RInv.next {w : World} {h g : Nat} {a b : List (List UInt8)} {pl : List (Nat × Nat)} {k i j : Nat} {es : List E} {v : Value} {wr : World} (I : RInv w h g a b pl k i j es v wr) (hk : k ≤ pl.length) :
    ∃ p0 p1, (pl ++ [(a.length, b.length)])[k]? = some (p0, p1) ∧ i ≤ p0 ∧ p0 ≤ a.length ∧ j ≤ p1 ∧ p1 ≤ b.length ∧
      (es ++ one b i j p0 p1) ++ eds b (p0 + 1) (p1 + 1) ((pl ++ [(a.length, b.length)]).drop (k + 1)) = edits a b ∧
      (k + 1 ≤ pl.length → Ris a b (p0 + 1) (p1 + 1) (pl.drop (k + 1)) ∧ p0 + 1 ≤ a.length ∧ p1 + 1 ≤ b.length) := by
  obtain ⟨hr, hi, hj⟩ := I.nx hk
  have he := I.eq
  by_cases hlt : k < pl.length
  · rw [drop_at hlt] at hr
    rw [List.drop_append_of_le_length hk, drop_at hlt] at he
    have hle := ris_le hr
    refine ⟨pl[k].1, pl[k].2, by rw [List.getElem?_append_left hlt, List.getElem?_eq_getElem hlt], hr.1, by omega, hr.2.1, by omega, ?_, fun _ => ⟨hr.2.2.2, hle.1, hle.2⟩⟩
    rw [← he, List.cons_append, eds, List.append_assoc, List.drop_append_of_le_length (by omega)]
  · obtain rfl : k = pl.length := by omega
    refine ⟨a.length, b.length, by rw [List.getElem?_append_right (Nat.le_refl _), Nat.sub_self]; rfl, hi, Nat.le_refl _, hj, Nat.le_refl _, ?_, fun h => by omega⟩
    rw [← he, List.drop_left, List.drop_of_length_le (by simp), eds, eds, eds, List.append_nil, List.append_nil]

theorem RInv.last {w : World} {h g : Nat} {a b : List (List UInt8)} {pl : List (Nat × Nat)} {k i j : Nat} {es : List E} {v : Value} {wr : World} (I : RInv w h g a b pl k i j es v wr) (hk : pl.length < k) : es = edits a b := by
  rw [← I.eq, List.drop_of_length_le (by simp; omega), eds, List.append_nil]

theorem cell_gn' {W w1 : World} {row : Option Nat} {b o : Nat} {u : Value} (hg : W.drew.grownBy w1 row) (hb : b < W.heap.size) (hne : some b ≠ row) (hc : W.cell? ⟨b, o, none⟩ = some u) : w1.cell? ⟨b, o, none⟩ = some u := by
  have e := hg.block b hb hne
  unfold World.cell? at hc ⊢
  rw [e]; exact hc
theorem pb_at {w : World} {g k p0 p1 : Nat} {pl : List (Nat × Nat)} (h : PB w g pl) (hk : pl[k]? = some (p0, p1)) : w.cell? ⟨g, k * 2, none⟩ = some (.int .i64 (p0 : Int)) ∧ w.cell? ⟨g, k * 2 + 1, none⟩ = some (.int .i64 (p1 : Int)) := by
  obtain ⟨cur, h1, h2⟩ := h
  obtain ⟨c0, c1⟩ := h2 k _ hk
  exact ⟨cell_of h1 _ c0, cell_of h1 _ c1⟩

/-- Where an edit has been told. -/
theorem RInv.told {w wr w3 w4 : World} {h g k i j ne p0 p1 l c1 gg cap : Nat} {a b : List (List UInt8)} {pl : List (Nat × Nat)} {es : List E} {v : Value} {A1 : Option Addr} {o : Obj} {xs : List Value} (hpb : PB wr g (pl ++ [(a.length, b.length)])) (hbl : Below h w wr) (hh : h ≤ wr.heap.size)
    (hrow : wr.ownsRow h 50 3 v ne xs) (hE : ECells wr h es xs) (hne : es.length = ne) (hk : (mid b j p1).length = l)
    (hr1 : w3.ownsRow wr.heap.size 9 1 (.slice A1 l c1) l ((mid b j p1).map strV)) (hg1 : wr.drew.grownBy w3 none) (hgrow : (w3.alloc o).grownBy w4 v.ownBlock)
    (hown : w4.ownsRow h 50 3 (.slice (some ⟨gg, 0, none⟩) (ne + 1) cap) (ne + 1) (xs ++ [.int .i64 (i : Int), .int .i64 ((p0 : Int) - i), .slice A1 l c1])) (hp : I64 ((i : Nat) : Int)) (ho : I64 ((p0 : Int) - i)) (hl1 : (mid b j p1).length ≤ maxLen)
    (hor : i < p0 ∨ j < p1) (heq : (es ++ one b i j p0 p1) ++ eds b (p0 + 1) (p1 + 1) ((pl ++ [(a.length, b.length)]).drop (k + 1)) = edits a b)
    (hnx : k + 1 ≤ pl.length → Ris a b (p0 + 1) (p1 + 1) (pl.drop (k + 1)) ∧ p0 + 1 ≤ a.length ∧ p1 + 1 ≤ b.length) :
    RInv w h g a b pl (k + 1) (p0 + 1) (p1 + 1) (es ++ one b i j p0 p1) (.slice (some ⟨gg, 0, none⟩) (ne + 1) cap) w4 := by
  have hd : wr.grownBy wr.drew none := ⟨rfl, rfl, rfl, Nat.le_refl _, fun _ _ _ => rfl⟩
  have ha := World.grownBy_alloc w3 o none
  have em : v.ownBlock = none ∨ v.ownBlock ≠ none := Classical.em _
  have hrow1 := ((hrow.kept hd em).kept hg1 em).kept ha em
  have k1 : KpE wr (w3.alloc o) := ((kpE_none hd).trans (kpE_none hg1)).trans (kpE_none ha)
  have k2 : KpE (w3.alloc o) w4 := kpE_grown hrow1 hgrow
  have b1 : Below h wr (w3.alloc o) := (((Below.refl h wr).grown hd hh (fun j hj => by cases hj)).grown hg1 (by simpa using hh) (fun j hj => by cases hj)).grown ha (Nat.le_trans hh (by simpa using hg1.size)) (fun j hj => by cases hj)
  subst hk; subst hne
  refine ⟨⟨xs ++ [.int .i64 (i : Int), .int .i64 ((p0 : Int) - i), .slice A1 (mid b j p1).length c1], ?_, ?_⟩, (hpb.kept k1).kept k2, hbl.trans (b1.grown hgrow (Nat.le_trans hh b1.size) (own_ge hrow1)), hnx, heq⟩
  · rw [one, if_pos hor, List.length_append]; exact hown
  · rw [one, if_pos hor]
    exact ecells_snoc (x := ⟨i, (p0 : Int) - i, mid b j p1⟩) (hE.kept (k1.trans k2)) (kpE_row ((own_mono hr1 hh).kept ha (Classical.em _)) k2) hp ho hl1

set_option maxRecDepth 100000 in
set_option maxHeartbeats 4000000 in
theorem refEdits (A A' : Option Addr) (c c' n m B : Nat) (a b : List (List UInt8)) (w : World) (hn : a.length = n) (hm : b.length = m) (hmc : m ≤ c') (hln : n ≤ 1000) (hlm : m ≤ 1000) (hB : B ≤ w.heap.size)
    (hR : RdS w B A a) (hR' : RdS w B A' b) :
    Calls Try.prog 32 #[.slice A n c, .slice A' m c'] w (EditsEnd w (edits a b)) := by
  obtain ⟨q0, hq, hx0, hx1, hx2⟩ := info_parts info_pair
  obtain ⟨i0, hi0, hz0, hz1, hz2⟩ := info_parts info_edit
  obtain ⟨j0, hj0, hy0, hy1, hy2⟩ := info_parts info_str
  have HP := Lib.hid (refPairs A A' c c' n m B a b w hn hm hln hlm hB hR hR')
  have hpl := pairs_len a b
  have hpl2 := (lcs_le a b).1
  have hris := pairs_ris a b
  have heds : ([] : List E) ++ eds b 0 0 (pairs a b ++ [(a.length, b.length)]) = edits a b := rfl
  generalize pairs a b = pl at *
  obtain ⟨N, hN⟩ : ∃ N, pl.length = N := ⟨_, rfl⟩
  rw [hn] at hpl2
  have hNl : N ≤ 1000 := by omega
  have HRI := Lib.hid hris; have HED := Lib.hid heds; clear hris heds hpl hpl2
  have HN := Lib.hid hn; have HM := Lib.hid hm; have HNN := Lib.hid hN; clear hn hm hN
  go_enter Try.func32, Try.ntmps32
  go_wp2_with fail
  refine HP.out.mono ?_
  rintro e w1 ⟨v, rfl, hrow, hb1⟩
  rw [HNN.out] at hrow
  clear HP
  obtain ⟨Av, cv, rfl⟩ := own_form hrow
  go_wp2_with (at_builtin; refine wpList_append_own _ rfl (.tmp 13) (.tmp 19) 58 rfl w.heap.size 60 q0 (.agg #[.int .i64 0, .int .i64 0]) 2 16 Try.underlying58 hq hx0 hx1 hx2 rfl (by decide) (.slice Av N cv) N (cellsP pl) rfl (hrow.alloc _) ⟨w1.heap.size, 0, none⟩ 1 1 [.int .i64 (n : Int), .int .i64 (m : Int)] rfl rfl (cells2_new w1 _ _ _) (by simp [Value.oneCell']) (by unfold maxLen; omega) (by omega) (by have := hb1.size; simp; omega) ?_; intro v' w2 hown' hgrow _; obtain ⟨g, cap', rfl⟩ := ownsRow_succ hown')
  have hB2 : Below w.heap.size w w2 := (hb1.alloc hb1.size _).grown hgrow (by have := hb1.size; simp; omega) (own_ge (hrow.alloc (.cells #[.int .i64 (n : Int), .int .i64 (m : Int)] 60)))
  obtain ⟨_, _, g', hv', _, hg', hPB⟩ := pb_own (pl := pl ++ [(a.length, b.length)]) (by rw [cellsP_snoc, HN.out, HM.out]; exact hown') (by simp [HNN.out])
  cases hv'
  have hgg := hg' (by omega)
  injection hgg with hgg
  injection hgg with hgg
  subst hgg
  have HI0 : Hid (RInv w w.heap.size g a b pl 0 0 0 [] (.slice none 0 0) w2) := Lib.hid ⟨⟨[], World.ownsRow_nil _ _ _ _, ecells_nil _ _⟩, hPB (by omega), hB2, fun _ => ⟨HRI.out, Nat.zero_le _, Nat.zero_le _⟩, HED.out⟩
  clear hown' hgrow hg' hPB hrow hb1 hB2
  have hR1 : RdS w w.heap.size A' b := Rd.up hR' hB
  generalize hh : w.heap.size = h at *
  have HH := Lib.hid hh; clear hh
  generalize hM1 : N + 1 = M at *
  have hM2 : M ≤ 1001 := by omega
  have HM1 := Lib.hid hM1; clear hM1
  go_wp2_with fail
  go_loopw [6, 7, 8, 9] (fun v6 v7 v8 v9 wr => ∃ (k i j : Nat) (es : List E), k ≤ M ∧ v9 = .int .i64 (k : Int) ∧ v7 = .int .i64 (i : Int) ∧ v8 = .int .i64 (j : Int) ∧ RInv w h g a b pl k i j es v6 wr) (fun _ _ _ v9 _ => M - (intOf v9).toNat)
  case atStart => exact ⟨0, 0, 0, [], Nat.zero_le _, rfl, rfl, rfl, HI0.out⟩
  case round =>
    obtain ⟨k, i, j, es, hk, rfl, rfl, rfl, I⟩ := hrel
    by_cases hlt : k < M
    · obtain ⟨p0, p1, hpe, hg1, hl1, hg2, hl2, heq, hnx⟩ := I.next (by have := HM1.out; rw [HNN.out]; omega)
      rw [HN.out] at hl1
      rw [HM.out] at hl2
      have hfew := I.few
      rw [HN.out, HM.out] at hfew
      obtain ⟨⟨xs, hrow, hE⟩, hpb, hbl, _, _⟩ := I
      obtain ⟨ne, hne⟩ : ∃ ne, es.length = ne := ⟨_, rfl⟩
      rw [hne] at hrow hfew
      obtain ⟨Ar, cr, rfl, hcr, _⟩ := rdE_own hrow hE hne
      have hsz : h ≤ wr.heap.size := by have := hbl.size; rw [HH.out] at this; exact this
      obtain ⟨cur, hcur, hcc⟩ := hpb
      obtain ⟨e0, e1⟩ := hcc k _ hpe
      have cp0 : wr.cell? ⟨g, k * 2, none⟩ = some (.int .i64 (p0 : Int)) := cell_of hcur _ e0
      have cp1 : wr.cell? ⟨g, k * 2 + 1, none⟩ = some (.int .i64 (p1 : Int)) := cell_of hcur _ e1
      have hpb : PB wr g (pl ++ [(a.length, b.length)]) := ⟨cur, hcur, hcc⟩
      have hRr : RdS wr h A' b := Rd.below hR1 hbl
      clear hcc hcur e0 e1
      have HPE := Lib.hid hpe; have HNE := Lib.hid hne; have HROW := Lib.hid hrow; have HE := Lib.hid hE; have HPB := Lib.hid hpb; have HBL := Lib.hid hbl; have HEQ := Lib.hid heq; have HNX := Lib.hid hnx
      clear hpe hne hrow hE hpb hbl heq hnx
      by_cases hor : i < p0 ∨ j < p1
      · have hD := Rd.drop hRr (k := j) (cap := c') (by rw [List.length_map, HM.out]; exact hmc)
        have hmm : ((b.map strV).drop j).take (p1 - j) = (mid b j p1).map strV := mid_map.symm
        have HL : Hid ((mid b j p1).length = p1 - j) := Lib.hid (by rw [mid_len (by rw [HM.out]; omega)])
        have HOR := Lib.hid hor
        have t4 : (p1 : Int) ≤ (c' : Int) := by omega
        rcases Classical.em (j = c') with hcj | hcj
        · subst hcj
          rw [if_pos rfl] at hD
          have hDT := hD.take (p1 - j)
          rw [hmm] at hDT
          have HDT := Lib.hid hDT
          clear hD hDT hmm
          have f1 : p1 - j ≤ maxLen := by unfold maxLen; omega
          have f1' : (p1 - j) * 16 ≤ 140737488355328 := by omega
          have f2 : ne + 1 ≤ maxLen := by unfold maxLen; omega
          have f3 : (ne + 1) * 40 ≤ 140737488355328 := by omega
          have hP : I64 ((i : Nat) : Int) := by unfold I64; omega
          have hO : I64 ((p0 : Int) - i) := by unfold I64; omega
          have HP := Lib.hid hP; have HO := Lib.hid hO; clear hP hO
          have em : (Value.slice Ar ne cr).ownBlock = none ∨ (Value.slice Ar ne cr).ownBlock ≠ none := Classical.em _
          have nn : ∀ b : Nat, some b ≠ (none : Option Nat) := fun b e => by cases e
          have EM := Lib.hid em; have NN := Lib.hid nn; clear em nn
          have lg : g < wr.heap.size := World.block_lt_of_cell? wr _ cp0
          have t1 : (0 : Int) ≤ (j : Int) := by omega
          have t2 : (j : Int) ≤ (p1 : Int) := by omega
          have t3 : (p1 : Int) ≤ (m : Int) := by omega
          have t5 : (0 : Int) ≤ (k : Int) := by omega
          have t6 : (k : Int) < (M : Int) := by omega
          have HSZ := Lib.hid hsz
          by_cases h1 : i < p0
          all_goals try (exfalso; have := HOR.out; omega)
          all_goals
            have hw : IntKind.i64.wrap ((p0 : Int) - (i : Int)) = (p0 : Int) - (i : Int) := IntWalk.i64_in _ (by omega)
            go_wp2_with fail
            go_region_held3 (fun w' => w'.cell? ⟨g, k * 2, none⟩ = some (.int .i64 (p0 : Int)) ∧ w'.cell? ⟨g, k * 2 + 1, none⟩ = some (.int .i64 (p1 : Int)))
              (first | go_keep | (exact ⟨cell_gn' HG1.out lg (NN.out _) cp0, cell_gn' HG1.out lg (NN.out _) cp1⟩) | (exact ⟨cell_al _ (cell_gn' HG1.out lg (NN.out _) cp0), cell_al _ (cell_gn' HG1.out lg (NN.out _) cp1)⟩) | (exact ⟨x0, x1⟩))
              (first
                | ((refine step_nil (o := ⟨some 60, _, _, _, _, _⟩) (by rfl) (.const (.slice none 0 0)) (.tmp 59) 22 (by rfl) 9 j0 (.string ⟨#[]⟩) 16 Try.underlying22 hj0 hy0 hy1 hy2 rfl (by rfl) h A' (p1 - j) 0 ((mid b j p1).map strV) (by rfl) ((List.length_map _).trans HL.out) (Rd.below HDT.out (below_drewN (Below.refl h wr) 1)) (strs_one _) f1 f1' ?_; intro A1 c1 w3 hr1 hg1; have HR1 := Lib.hid hr1; have HG1 := Lib.hid hg1; clear hr1 hg1))
                | ((refine step_append_lies (o := ⟨some 63, _, _, _, _, _⟩) _ (by rfl) _ _ _ (by rfl) h 50 i0 _ 3 40 Try.underlying47 hi0 hz0 hz1 hz2 rfl (by decide) (.slice Ar ne cr) ne xs (by rfl) ((HROW.out.drew.kept HG1.out EM.out).alloc _) ⟨w3.heap.size, 0, none⟩ 1 1 [.int .i64 (i : Int), .int .i64 ((p0 : Int) - i), .slice A1 (p1 - j) c1] (by rfl) (by rfl) (World.news_of_block (cs := #[.int .i64 (i : Int), .int .i64 ((p0 : Int) - i), .slice A1 (p1 - j) c1]) (t := 50) (fr := (0, 0)) (heap_alloc_new w3 _)) (by simp [Value.oneCell']) (by decide) f2 f3 (Nat.le_trans HSZ.out (Nat.le_trans HG1.out.size (by simp))) (w3.heap.size + 1) (by simp) ?_; intro gg cap w4 hown2 hgrow hat hlt4;
                    have hT := RInv.told HPB.out HBL.out HSZ.out HROW.out HE.out HNE.out HL.out HR1.out HG1.out hgrow hown2 HP.out HO.out (Nat.le_trans (Nat.le_of_eq HL.out) f1) HOR.out HEQ.out HNX.out; have HT := Lib.hid hT; obtain ⟨x0, x1⟩ := pb_at hT.pb HPE.out; clear hT hgrow hown2 hat hlt4)))
            clear hw
            go_wp2
            go_roundw
            case rel => exact ⟨k + 1, p0 + 1, p1 + 1, _, by omega, by go_num, by go_num, by go_num, HT.out⟩
            case measure => simp [intOf]; omega
        · have hcj' : ¬ c' = j := Ne.symm hcj
          clear hcj
          rw [if_neg hcj'] at hD
          have hDT := hD.take (p1 - j)
          rw [hmm] at hDT
          have HDT := Lib.hid hDT
          clear hD hDT hmm
          have f1 : p1 - j ≤ maxLen := by unfold maxLen; omega
          have f1' : (p1 - j) * 16 ≤ 140737488355328 := by omega
          have f2 : ne + 1 ≤ maxLen := by unfold maxLen; omega
          have f3 : (ne + 1) * 40 ≤ 140737488355328 := by omega
          have hP : I64 ((i : Nat) : Int) := by unfold I64; omega
          have hO : I64 ((p0 : Int) - i) := by unfold I64; omega
          have HP := Lib.hid hP; have HO := Lib.hid hO; clear hP hO
          have em : (Value.slice Ar ne cr).ownBlock = none ∨ (Value.slice Ar ne cr).ownBlock ≠ none := Classical.em _
          have nn : ∀ b : Nat, some b ≠ (none : Option Nat) := fun b e => by cases e
          have EM := Lib.hid em; have NN := Lib.hid nn; clear em nn
          have lg : g < wr.heap.size := World.block_lt_of_cell? wr _ cp0
          have t1 : (0 : Int) ≤ (j : Int) := by omega
          have t2 : (j : Int) ≤ (p1 : Int) := by omega
          have t3 : (p1 : Int) ≤ (m : Int) := by omega
          have t5 : (0 : Int) ≤ (k : Int) := by omega
          have t6 : (k : Int) < (M : Int) := by omega
          have HSZ := Lib.hid hsz
          by_cases h1 : i < p0
          all_goals
            have hw : IntKind.i64.wrap ((p0 : Int) - (i : Int)) = (p0 : Int) - (i : Int) := IntWalk.i64_in _ (by omega)
            go_wp2_with fail
            go_region_held3 (fun w' => w'.cell? ⟨g, k * 2, none⟩ = some (.int .i64 (p0 : Int)) ∧ w'.cell? ⟨g, k * 2 + 1, none⟩ = some (.int .i64 (p1 : Int)))
              (first | go_keep | (exact ⟨cell_gn' HG1.out lg (NN.out _) cp0, cell_gn' HG1.out lg (NN.out _) cp1⟩) | (exact ⟨cell_al _ (cell_gn' HG1.out lg (NN.out _) cp0), cell_al _ (cell_gn' HG1.out lg (NN.out _) cp1)⟩) | (exact ⟨x0, x1⟩))
              (first
                | ((refine step_nil (o := ⟨some 60, _, _, _, _, _⟩) (by rfl) (.const (.slice none 0 0)) (.tmp 59) 22 (by rfl) 9 j0 (.string ⟨#[]⟩) 16 Try.underlying22 hj0 hy0 hy1 hy2 rfl (by rfl) h (A'.map (fun x => x.add j)) (p1 - j) (c' - j) ((mid b j p1).map strV) (by rfl) ((List.length_map _).trans HL.out) (Rd.below HDT.out (below_drewN (Below.refl h wr) 1)) (strs_one _) f1 f1' ?_; intro A1 c1 w3 hr1 hg1; have HR1 := Lib.hid hr1; have HG1 := Lib.hid hg1; clear hr1 hg1))
                | ((refine step_append_lies (o := ⟨some 63, _, _, _, _, _⟩) _ (by rfl) _ _ _ (by rfl) h 50 i0 _ 3 40 Try.underlying47 hi0 hz0 hz1 hz2 rfl (by decide) (.slice Ar ne cr) ne xs (by rfl) ((HROW.out.drew.kept HG1.out EM.out).alloc _) ⟨w3.heap.size, 0, none⟩ 1 1 [.int .i64 (i : Int), .int .i64 ((p0 : Int) - i), .slice A1 (p1 - j) c1] (by rfl) (by rfl) (World.news_of_block (cs := #[.int .i64 (i : Int), .int .i64 ((p0 : Int) - i), .slice A1 (p1 - j) c1]) (t := 50) (fr := (0, 0)) (heap_alloc_new w3 _)) (by simp [Value.oneCell']) (by decide) f2 f3 (Nat.le_trans HSZ.out (Nat.le_trans HG1.out.size (by simp))) (w3.heap.size + 1) (by simp) ?_; intro gg cap w4 hown2 hgrow hat hlt4;
                    have hT := RInv.told HPB.out HBL.out HSZ.out HROW.out HE.out HNE.out HL.out HR1.out HG1.out hgrow hown2 HP.out HO.out (Nat.le_trans (Nat.le_of_eq HL.out) f1) HOR.out HEQ.out HNX.out; have HT := Lib.hid hT; obtain ⟨x0, x1⟩ := pb_at hT.pb HPE.out; clear hT hgrow hown2 hat hlt4)))
            clear hw
            go_wp2
            go_roundw
            case rel => exact ⟨k + 1, p0 + 1, p1 + 1, _, by omega, by go_num, by go_num, by go_num, HT.out⟩
            case measure => simp [intOf]; omega
      · obtain rfl : i = p0 := by omega
        obtain rfl : j = p1 := by omega
        have HI2 : Hid (RInv w h g a b pl (k + 1) (i + 1) (j + 1) es (.slice Ar ne cr) wr) := Lib.hid (by
          have h1 := HEQ.out
          rw [one_self, List.append_nil] at h1
          exact ⟨⟨xs, by rw [HNE.out]; exact HROW.out, HE.out⟩, HPB.out, HBL.out, HNX.out, h1⟩)
        go_wp2
        go_roundw
        case rel => exact ⟨k + 1, i + 1, j + 1, es, by omega, by go_num, by go_num, by go_num, HI2.out⟩
        case measure => simp [intOf]; omega
    · have hes := I.last (by have := HM1.out; rw [HNN.out]; omega)
      obtain ⟨xs, hrow, hE⟩ := I.row
      obtain ⟨Ar, cr, rfl, hcr, hrd⟩ := rdE_own hrow hE rfl
      have hbl := I.bl
      clear I hrow hE HI0
      rw [hes] at hcr hrd ⊢
      go_wp2
      go_ret
      exact ⟨Ar, cr, rfl, hcr, hrd, by rw [HH.out]; exact hbl⟩

end Df
end Go.Proofs.Ytkpgkbllcdpobaa

namespace Go.Proofs.Ytkpgkbllcdpobaa
open Go.RowKit
set_option linter.unusedVariables false
namespace Hk
open Tx Df Lc

/-- What holds between the edits, in the document's own Of. -/
structure TInv (w1 : World) (a b : List (List UInt8)) (es : List E) (k : Nat) (mv : Int) (pre : List HU) (v : Value) (wr : World) : Prop where
  row : ∃ xs, wr.ownsRow w1.heap.size 24 3 v k xs ∧ HCells wr w1.heap.size w1.heap.size pre xs
  len : pre.length = k
  bl : Below w1.heap.size w1 wr
  eq : pre ++ hks a mv (es.drop k) = hks a 0 es
  at_ : ∃ k0 f u r, apl a k0 f (es.drop k) = some r ∧ u ++ r = b ∧ (u.length : Int) = k0 + mv ∧ k0 ≤ a.length

theorem tstep {w1 wr w2 w4 : World} {a b : List (List UInt8)} {es : List E} {k : Nat} {mv : Int} {pre : List HU} {v v' : Value} {xs : List Value} {p o q n ll : Nat} {l : List (List UInt8)} {ob : Obj}
    {D1 : Option Addr} {k1 : Nat} {A3 : Option Addr} {c3 k0 : Nat} {u r r0 : List (List UInt8)}
    (I : TInv w1 a b es k mv pre v wr) (hrow : wr.ownsRow w1.heap.size 24 3 v k xs) (hH : HCells wr w1.heap.size w1.heap.size pre xs)
    (heq : pre ++ hks a mv (⟨(p : Int), (o : Int), l⟩ :: es.drop (k + 1)) = hks a 0 es) (hap : apl a ((p : Int) + (o : Int)).toNat false (es.drop (k + 1)) = some r) (hr0 : r0 = mid a k0 (p : Int).toNat ++ l ++ r) (hur : u ++ r0 = b) (hul : (u.length : Int) = k0 + mv)
    (hkp : k0 ≤ p) (hn : a.length = n) (hq : p + o = q) (hqn : q ≤ n) (hln : n ≤ 1000) (hll : l.length = ll) (hll2 : ll ≤ 1000) (hmv : -1000000 ≤ mv) (hmv' : mv ≤ 1000000) (hc3 : ll ≤ c3) (hR3 : RdS wr w1.heap.size A3 l)
    (hr2 : w2.ownsRow wr.drew.heap.size 9 1 (.slice D1 (q - p) k1) (q - p) ((mid a p q).map strV)) (hg2 : wr.drew.grownBy w2 none)
    (hown : w4.ownsRow w1.heap.size 24 3 v' (k + 1) (xs ++ [.int .i64 (p + mv), .slice D1 (q - p) k1, .slice A3 ll c3])) (hgrow : (w2.drew.alloc ob).grownBy w4 v.ownBlock) (d : Nat) :
    TInv w1 a b es (k + 1) (mv + ll - o) (pre ++ [⟨p + mv, mid a p q, l⟩]) v' (w4.drewN d) := by
  have hge := own_ge hrow
  have hs1 := I.bl.size
  have gd : wr.grownBy w2 none := gr_of_drewN (d := 1) hg2
  have g2 : w2.grownBy (w2.drew.alloc ob) none := gr_of_drewN (d := 1) (World.grownBy_alloc w2.drew ob none)
  have hsz2 : w1.heap.size ≤ w2.heap.size := Nat.le_trans hs1 gd.size
  have hsz3 : w1.heap.size ≤ (w2.drew.alloc ob).heap.size := Nat.le_trans hsz2 g2.size
  have hrow2 := own_gr hrow gd
  have hrow3 := own_gr hrow2 g2
  have hS2 : KpS w2 w4 := (kpS_none g2).trans (kpS_row hrow3 (by decide) hgrow)
  have hS : KpS wr w4 := (kpS_none gd).trans hS2
  have hB : Below w1.heap.size wr w4 := ((below_gr gd).mono hs1).trans (((below_gr g2).mono hsz2).trans ((Below.refl _ _).grown hgrow hsz3 hge))
  have hRd : ∀ A ls, RdS wr w1.heap.size A ls → RdS w4 w1.heap.size A ls := fun A ls h => Rd.below h hB
  have hlen : (mid a p q).length = q - p := mid_len (by omega)
  refine ⟨⟨_, hown, ?_⟩, by rw [List.length_append, I.len]; rfl, below_drewN (I.bl.trans hB) d, ?_, ?_⟩
  · have hh := hcells_snoc (x := ⟨p + mv, mid a p q, l⟩) (A := D1) (c := k1) (A' := A3) (c' := c3) (hH.kept hS hRd) (by simp only [hlen]; exact own_mono (own_kpS hr2 hS2) hs1) (by simp only [hll]; exact hc3) (hRd _ _ hR3) (by unfold I64; simp only; omega) (by simp only [hlen]; unfold maxLen; omega) (by simp only [hll]; unfold maxLen; omega)
    simp only [hlen, hll] at hh
    exact hh
  · rw [← heq, hks, List.append_assoc]
    simp only [hll, Int.toNat_natCast, show ((p : Int) + (o : Int)).toNat = q by omega]
    rfl
  · refine ⟨((p : Int) + (o : Int)).toNat, false, u ++ (mid a k0 p ++ l), r, hap, ?_, ?_, by omega⟩
    · rw [← hur, hr0, Int.toNat_natCast]; simp only [List.append_assoc]
    · rw [List.length_append, List.length_append, mid_len (by omega), hll]; omega

set_option maxRecDepth 100000 in
set_option maxHeartbeats 4000000 in
theorem refOf (A A' : Option Addr) (c c' n m B : Nat) (a b : List (List UInt8)) (w : World) (hn : a.length = n) (hm : b.length = m) (hnc : n ≤ c) (hmc : m ≤ c') (hln : n ≤ 1000) (hlm : m ≤ 1000) (hB : B ≤ w.heap.size)
    (hR : RdS w B A a) (hR' : RdS w B A' b) :
    Calls Try.prog 22 #[.slice A n c, .slice A' m c'] w (OfEnd w (hks a 0 (edits a b))) := by
  obtain ⟨i0, hi0, hz0, hz1, hz2⟩ := info_parts info_hunk
  obtain ⟨j0, hj0, hx0, hx1, hx2⟩ := info_parts info_str
  have HN := Lib.hid hn; clear hn
  have HM := Lib.hid hm; clear hm
  go_enter Try.func22, Try.ntmps22
  go_wp2_with fail
  refine (refEdits A A' c c' n m B a b w HN.out HM.out hmc hln hlm hB hR hR').mono ?_
  have hap := edits_appl a b
  obtain ⟨es, hes⟩ : ∃ es, edits a b = es := ⟨_, rfl⟩
  rw [hes] at hap ⊢
  obtain ⟨N, hN⟩ : ∃ N, es.length = N := ⟨_, rfl⟩
  have hNle := edits_len_le a b
  rw [hes, hN, HN.out, HM.out] at hNle
  have HES := Lib.hid hes; clear hes
  rintro e w1 ⟨A1, c1, rfl, hc1, hE, hb1⟩
  rw [hN] at hc1 ⊢
  have HW1 := Lib.hid hb1
  have I0 : TInv w1 a b es 0 0 [] (.slice none 0 0) w1 := ⟨⟨[], World.ownsRow_nil _ _ _ _, hcells_nil _ _ _⟩, rfl, Below.refl _ _, rfl, 0, true, [], b, hap, rfl, rfl, Nat.zero_le _⟩
  have HE := Lib.hid hE; have HI0 := Lib.hid I0; have HNN := Lib.hid hN
  have HR1 := Lib.hid (Rd.up (Rd.below hR (HW1.out.mono hB)) (Nat.le_trans hB HW1.out.size))
  have HC : Hid (∀ (k : Nat) (p o : Nat) (l : List (List UInt8)) (pa : Addr), A1 = some pa → es[k]? = some ⟨(p : Int), (o : Int), l⟩ → ∃ A3 c3, l.length ≤ c3 ∧ RdS w1 w1.heap.size A3 l ∧ ∀ w', Below w1.heap.size w1 w' → w'.cell? (pa.add (k * 3)) = some (.int .i64 (p : Int)) ∧ w'.cell? ⟨(pa.add (k * 3)).block, (pa.add (k * 3)).off + 1, none⟩ = some (.int .i64 (o : Int)) ∧ w'.cell? ⟨(pa.add (k * 3)).block, (pa.add (k * 3)).off + 2, none⟩ = some (.slice A3 l.length c3)) := Lib.hid (fun k p o l pa hA hx => by
    rcases hE with h | ⟨a', e, hlt, hc⟩
    · rw [h] at hx; simp at hx
    · rw [hA] at e; injection e with e; subst e
      have h0 := hc k _ hx
      obtain ⟨c0, c1, ⟨A3, c3, k3, hc3, hR3⟩, _⟩ := h0
      refine ⟨A3, c3, hc3, hR3, fun w' hb => ?_⟩
      have hpb : (pa.add (k * 3)).block < w1.heap.size := by rw [add_block]; exact hlt
      exact ⟨(hb.cell hpb).trans c0, (hb.cell (p := ⟨(pa.add (k * 3)).block, (pa.add (k * 3)).off + 1, none⟩) hpb).trans c1, (hb.cell (p := ⟨(pa.add (k * 3)).block, (pa.add (k * 3)).off + 2, none⟩) hpb).trans k3⟩)
  clear hap hN hE hb1 I0 hR hR'
  go_wp2_with fail
  go_loopw [6, 7, 8] (fun v6 v7 v8 wr => ∃ (k : Nat) (mv : Int) (pre : List HU), k ≤ N ∧ v8 = .int .i64 (k : Int) ∧ v7 = .int .i64 mv ∧ TInv w1 a b es k mv pre v6 wr) (fun _ _ v8 _ => N - (intOf v8).toNat)
  case atStart => exact ⟨0, 0, [], Nat.zero_le _, rfl, rfl, HI0.out⟩
  case round =>
    obtain ⟨k, mv, pre, hk, rfl, rfl, I⟩ := hrel
    by_cases hlt : k < N
    · have hkl : k < es.length := by rw [HNN.out]; exact hlt
      have heq := I.eq
      obtain ⟨k0, f, u, r0, hap, hur, hul, hk0⟩ := I.at_
      rw [hunk_drop hkl] at heq hap
      have HD := Lib.hid hur
      obtain ⟨pa, rfl, _, _⟩ := HE.out.at_ hkl
      have hcx := HC.out k
      have hget := List.getElem?_eq_getElem hkl
      generalize es[k] = x at *
      obtain ⟨p, o, l⟩ := x
      obtain ⟨⟨z1, z2, z3, z4, z5⟩, r, hap2, hr0⟩ := apl_some hap
      simp only at z1 z3 z4 z5 hap2 hr0
      obtain ⟨p, rfl⟩ : ∃ q : Nat, p = q := ⟨p.toNat, by omega⟩
      obtain ⟨o, rfl⟩ : ∃ q : Nat, o = q := ⟨o.toNat, by omega⟩
      obtain ⟨A3, c3, hc3, hR3, hcx⟩ := hcx p o l pa rfl hget
      obtain ⟨ll, hll⟩ : ∃ ll, l.length = ll := ⟨_, rfl⟩
      rw [HN.out] at z3 z5
      have hblen := congrArg List.length hur
      rw [hr0, HM.out] at hblen
      simp only [List.length_append, hll] at hblen
      rw [hll] at hc3 hcx
      obtain ⟨q, hpq⟩ : ∃ q, p + o = q := ⟨_, rfl⟩
      have hqn : q ≤ n := by omega
      have hll2 : ll ≤ 1000 := by omega
      have hmv1 : -1000000 ≤ mv := by rw [HN.out] at hk0; omega
      have hmv2 : mv ≤ 1000000 := by omega
      have hle : p ≤ q := by omega
      have ho1 : o ≤ 1000 := by omega
      have HCX := Lib.hid hcx
      have HI := Lib.hid I; have HEQ := Lib.hid heq; have HAP2 := Lib.hid hap2; have HR0 := Lib.hid hr0; have HLL := Lib.hid hll; have HUL := Lib.hid hul; have HKP : Hid (k0 ≤ p) := Lib.hid (by omega)
      have HR3 := Lib.hid (Rd.below hR3 I.bl); have HPQ := Lib.hid hpq
      obtain ⟨x0, x1, x2⟩ := hcx wr I.bl
      have t1 : (k : Int) < (N : Int) := by omega
      have t2 : (0 : Int) ≤ (k : Int) := by omega
      have t3 : (0 : Int) ≤ (p : Int) := by omega
      have t4 : (p : Int) ≤ (q : Int) := by omega
      have s1 : IntKind.i64.wrap ((p : Int) + (o : Int)) = (q : Int) := by rw [IntWalk.i64_in _ (by omega)]; omega
      have t5 : (q : Int) ≤ (c : Int) := by omega
      have hL : (mid a p q).length = q - p := mid_len (by rw [HN.out]; omega)
      have HL := Lib.hid hL
      have hD := Rd.take (Rd.drop (Rd.below HR1.out I.bl) (k := p) (cap := c) (by rw [List.length_map, HN.out]; exact hnc)) (q - p)
      have hmm : (((a.map strV).drop p).take (q - p)) = (mid a p q).map strV := mid_map.symm
      rw [hmm] at hD
      have f1 : q - p ≤ maxLen := by unfold maxLen; omega
      have f1' : (q - p) * 16 ≤ 140737488355328 := by omega
      have f2 : k + 1 ≤ maxLen := by unfold maxLen; omega
      have f3 : (k + 1) * 56 ≤ 140737488355328 := by omega
      obtain ⟨xs, hrow, hH⟩ := I.row
      have HROW := Lib.hid hrow; have HH := Lib.hid hH
      clear I heq hap hap2 hr0 hll hur hblen hul hR3 hcx hget z1 z2 z3 z4 z5 hL hmm hpq hrow hH
      obtain hcp | hcp' := Classical.em (p = c)
      · subst hcp
        rw [if_pos rfl] at hD
        have HDT := Lib.hid hD
        clear hD
        go_wp2_with fail
        go_region_held3 (fun w' => w'.cell? (pa.add (k * 3)) = some (.int .i64 (p : Int)) ∧ w'.cell? ⟨(pa.add (k * 3)).block, (pa.add (k * 3)).off + 1, none⟩ = some (.int .i64 (o : Int)) ∧ w'.cell? ⟨(pa.add (k * 3)).block, (pa.add (k * 3)).off + 2, none⟩ = some (.slice A3 ll c3))
          (first
            | go_keep
            | (exact ⟨y0, y1, y2⟩))
          (first
            | ((refine step_nil (o := ⟨some 37, _, _, _, _, _⟩) (by rfl) (.const (.slice none 0 0)) (.tmp 36) 22 (by rfl) 9 j0 (.string ⟨#[]⟩) 16 Try.underlying22 hj0 hx0 hx1 hx2 rfl (by rfl) w1.heap.size A (q - p) 0 ((mid a p q).map strV) (by rfl) ((List.length_map _).trans HL.out) (Rd.drewN HDT.out 1) (strs_one _) f1 f1' ?_; intro D1 k1 w2 hr2 hg2; have HR2 := Lib.hid hr2; have HG2 := Lib.hid hg2;
                have y0 := cell_gr hg2 (nn _) x0; have y1 := cell_gr hg2 (nn _) x1; have y2 := cell_gr hg2 (nn _) x2; clear hr2 hg2)))
        clear s1 x0 x1 x2
        have HROW2 := Lib.hid (own_gr HROW.out (gr_of_drewN (d := 1) HG2.out))
        have HSZ2 := Lib.hid (Nat.le_trans HI.out.bl.size (gr_of_drewN (d := 1) HG2.out).size)
        have s2 : IntKind.i64.wrap ((p : Int) + mv) = (p : Int) + mv := IntWalk.i64_in _ (by omega)
        have hst := fun (w4 : World) (v' : Value) => tstep (w4 := w4) (v' := v') (ob := .cells #[.int .i64 ((p : Int) + mv), .slice D1 (q - p) k1, .slice A3 ll c3] 24) HI.out HROW.out HH.out HEQ.out HAP2.out HR0.out HD.out HUL.out HKP.out HN.out HPQ.out hqn hln HLL.out hll2 hmv1 hmv2 hc3 HR3.out HR2.out HG2.out
        have HST := Lib.hid hst; clear hst
        go_wp2_with fail
        go_region_held3 (fun w' => w'.cell? (pa.add (k * 3)) = some (.int .i64 (p : Int)) ∧ w'.cell? ⟨(pa.add (k * 3)).block, (pa.add (k * 3)).off + 1, none⟩ = some (.int .i64 (o : Int)) ∧ w'.cell? ⟨(pa.add (k * 3)).block, (pa.add (k * 3)).off + 2, none⟩ = some (.slice A3 ll c3))
          (first
            | go_keep
            | (exact ⟨cell_alc _ y0, cell_alc _ y1, cell_alc _ y2⟩)
            | (exact hS4))
          (first
            | ((refine step_append_lies (o := ⟨some 54, _, _, _, _, _⟩) _ (by rfl) _ _ _ (by rfl) w1.heap.size 24 i0 _ 3 56 Try.underlying36 hi0 hz0 hz1 hz2 rfl (by decide) u6 k xs (by rfl) ((HROW2.out.drew).alloc _) ⟨w2.heap.size, 0, none⟩ 1 1 [.int .i64 ((p : Int) + mv), .slice D1 (q - p) k1, .slice A3 ll c3] (by rfl) (by rfl) (World.news_of_block (cs := #[.int .i64 ((p : Int) + mv), .slice D1 (q - p) k1, .slice A3 ll c3]) (t := 24) (fr := (0, 0)) (heap_alloc_new w2 _)) (by simp [Value.oneCell']) (by decide) f2 f3 (Nat.le_trans HSZ2.out (by simp)) (w2.heap.size + 1) (by simp) ?_; intro gg cap w4 hown2 hgrow hat4 hlt4;
                have HT := Lib.hid (HST.out w4 _ hown2 hgrow); have hS4 := HCX.out w4 (HT.out 0).bl; clear hown2 hgrow hat4 hlt4)))
        clear s2 y0 y1 y2
        obtain ⟨x0, x1, x2⟩ := HCX.out w4 (HT.out 0).bl
        have s3 : IntKind.i64.wrap (mv + (ll : Int)) = mv + (ll : Int) := IntWalk.i64_in _ (by omega)
        have s4 : IntKind.i64.wrap (mv + (ll : Int) - (o : Int)) = mv + (ll : Int) - (o : Int) := IntWalk.i64_in _ (by omega)
        go_wp2
        go_quiet (fail)
        clear s3 s4
        go_wp2
        go_roundw
        case rel => exact ⟨k + 1, _, _, by omega, by go_num, rfl, HT.out _⟩
        case measure => simp [intOf]; omega
      · have hcp : ¬ c = p := fun h => hcp' h.symm
        clear hcp'
        rw [if_neg hcp] at hD
        have HDT := Lib.hid hD
        clear hD
        go_wp2_with fail
        go_region_held3 (fun w' => w'.cell? (pa.add (k * 3)) = some (.int .i64 (p : Int)) ∧ w'.cell? ⟨(pa.add (k * 3)).block, (pa.add (k * 3)).off + 1, none⟩ = some (.int .i64 (o : Int)) ∧ w'.cell? ⟨(pa.add (k * 3)).block, (pa.add (k * 3)).off + 2, none⟩ = some (.slice A3 ll c3))
          (first
            | go_keep
            | (exact ⟨y0, y1, y2⟩))
          (first
            | ((refine step_nil (o := ⟨some 37, _, _, _, _, _⟩) (by rfl) (.const (.slice none 0 0)) (.tmp 36) 22 (by rfl) 9 j0 (.string ⟨#[]⟩) 16 Try.underlying22 hj0 hx0 hx1 hx2 rfl (by rfl) w1.heap.size (A.map (fun x => x.add p)) (q - p) (c - p) ((mid a p q).map strV) (by rfl) ((List.length_map _).trans HL.out) (Rd.drewN HDT.out 1) (strs_one _) f1 f1' ?_; intro D1 k1 w2 hr2 hg2; have HR2 := Lib.hid hr2; have HG2 := Lib.hid hg2;
                have y0 := cell_gr hg2 (nn _) x0; have y1 := cell_gr hg2 (nn _) x1; have y2 := cell_gr hg2 (nn _) x2; clear hr2 hg2)))
        clear s1 x0 x1 x2
        have HROW2 := Lib.hid (own_gr HROW.out (gr_of_drewN (d := 1) HG2.out))
        have HSZ2 := Lib.hid (Nat.le_trans HI.out.bl.size (gr_of_drewN (d := 1) HG2.out).size)
        have s2 : IntKind.i64.wrap ((p : Int) + mv) = (p : Int) + mv := IntWalk.i64_in _ (by omega)
        have hst := fun (w4 : World) (v' : Value) => tstep (w4 := w4) (v' := v') (ob := .cells #[.int .i64 ((p : Int) + mv), .slice D1 (q - p) k1, .slice A3 ll c3] 24) HI.out HROW.out HH.out HEQ.out HAP2.out HR0.out HD.out HUL.out HKP.out HN.out HPQ.out hqn hln HLL.out hll2 hmv1 hmv2 hc3 HR3.out HR2.out HG2.out
        have HST := Lib.hid hst; clear hst
        go_wp2_with fail
        go_region_held3 (fun w' => w'.cell? (pa.add (k * 3)) = some (.int .i64 (p : Int)) ∧ w'.cell? ⟨(pa.add (k * 3)).block, (pa.add (k * 3)).off + 1, none⟩ = some (.int .i64 (o : Int)) ∧ w'.cell? ⟨(pa.add (k * 3)).block, (pa.add (k * 3)).off + 2, none⟩ = some (.slice A3 ll c3))
          (first
            | go_keep
            | (exact ⟨cell_alc _ y0, cell_alc _ y1, cell_alc _ y2⟩)
            | (exact hS4))
          (first
            | ((refine step_append_lies (o := ⟨some 54, _, _, _, _, _⟩) _ (by rfl) _ _ _ (by rfl) w1.heap.size 24 i0 _ 3 56 Try.underlying36 hi0 hz0 hz1 hz2 rfl (by decide) u6 k xs (by rfl) ((HROW2.out.drew).alloc _) ⟨w2.heap.size, 0, none⟩ 1 1 [.int .i64 ((p : Int) + mv), .slice D1 (q - p) k1, .slice A3 ll c3] (by rfl) (by rfl) (World.news_of_block (cs := #[.int .i64 ((p : Int) + mv), .slice D1 (q - p) k1, .slice A3 ll c3]) (t := 24) (fr := (0, 0)) (heap_alloc_new w2 _)) (by simp [Value.oneCell']) (by decide) f2 f3 (Nat.le_trans HSZ2.out (by simp)) (w2.heap.size + 1) (by simp) ?_; intro gg cap w4 hown2 hgrow hat4 hlt4;
                have HT := Lib.hid (HST.out w4 _ hown2 hgrow); have hS4 := HCX.out w4 (HT.out 0).bl; clear hown2 hgrow hat4 hlt4)))
        clear s2 y0 y1 y2
        obtain ⟨x0, x1, x2⟩ := HCX.out w4 (HT.out 0).bl
        have s3 : IntKind.i64.wrap (mv + (ll : Int)) = mv + (ll : Int) := IntWalk.i64_in _ (by omega)
        have s4 : IntKind.i64.wrap (mv + (ll : Int) - (o : Int)) = mv + (ll : Int) - (o : Int) := IntWalk.i64_in _ (by omega)
        go_wp2
        go_quiet (fail)
        clear s3 s4
        go_wp2
        go_roundw
        case rel => exact ⟨k + 1, _, _, by omega, by go_num, rfl, HT.out _⟩
        case measure => simp [intOf]; omega
    · obtain rfl : k = N := by omega
      have heq := I.eq
      rw [List.drop_of_length_le (by rw [HNN.out]; exact Nat.le_refl _), hks, List.append_nil] at heq
      obtain ⟨xs, hrow, hH⟩ := I.row
      obtain ⟨Ar, cr, rfl, hcr, hrd⟩ := rdH_own hrow hH I.len I.bl.size
      have hlen := I.len
      rw [heq] at hrd hlen
      have HF := Lib.hid (HW1.out.trans (I.bl.mono HW1.out.size))
      clear I hrow hH heq hlt
      have HLEN := Lib.hid hlen; have HRD := Lib.hid hrd
      clear hlen hrd
      go_wp2
      go_ret
      exact ⟨Ar, cr, by rw [HES.out, HLEN.out]; rfl, by rw [HES.out, HLEN.out]; exact hcr, by rw [HES.out]; exact HRD.out, HF.out⟩

end Hk
end Go.Proofs.Ytkpgkbllcdpobaa

namespace Go.Proofs.Ytkpgkbllcdpobaa
open Go.RowKit
set_option linter.unusedVariables false
namespace Sq
open Tx

theorem at_step {ls ms : List (List UInt8)} {i k n' : Nat} (hn' : ms.length = n') (hb : i + n' ≤ ls.length) (hk : k < n') (h : (ls.drop i).take k = ms.take k) (h1 : i + k < ls.length) (h2 : k < ms.length) :
    (ls[i + k] = ms[k] → (ls.drop i).take (k + 1) = ms.take (k + 1)) ∧ (ls[i + k] ≠ ms[k] → has ls i ms = false) := by
  have hd : k < (ls.drop i).length := by rw [List.length_drop]; omega
  have he : (ls.drop i)[k] = ls[i + k] := by simp
  refine ⟨fun e => take_eq_succ hd h2 h (by rw [he, e]), fun e => ?_⟩
  rw [has_at (by omega)]
  refine decide_eq_false fun hh => e ?_
  rw [← he]
  have := congrArg (fun l => l[k]?) hh
  simp only [List.getElem?_take, h2, if_true] at this
  rw [List.getElem?_eq_getElem hd, List.getElem?_eq_getElem h2] at this
  exact Option.some.inj this

set_option maxHeartbeats 1000000 in
theorem RefAt (A A' : Option Addr) (cap cap' n n' B : Nat) (i : Int) (ls ms : List (List UInt8)) (w : World) (hn : ls.length = n) (hn' : ms.length = n') (hnm : n ≤ maxLen) (hnm' : n' ≤ maxLen) (hR : RdS w B A ls) (hR' : RdS w B A' ms) :
    Calls Try.prog 36 #[.slice A n cap, .int .i64 i, .slice A' n' cap'] w (SameEnd w (has ls i ms)) := by
  unfold maxLen at hnm hnm'
  have HN := Lib.hid hn; clear hn
  have HN' := Lib.hid hn'; clear hn'
  by_cases h1 : i < 0
  · have HF : Hid (has ls i ms = false) := Lib.hid (has_false (.inl h1))
    go_enter Try.func36, Try.ntmps36
    go_wp2
    go_ret
    exact ⟨ret_bool HF.out.symm, 0, rfl⟩
  by_cases h2 : (n : Int) < i
  · have HF : Hid (has ls i ms = false) := Lib.hid (has_false (.inr (.inl (by rw [HN.out]; exact h2))))
    go_enter Try.func36, Try.ntmps36
    go_wp2
    go_ret
    exact ⟨ret_bool HF.out.symm, 0, rfl⟩
  obtain ⟨i, rfl⟩ : ∃ k : Nat, i = k := ⟨i.toNat, by omega⟩
  by_cases h3 : (n : Int) - i < n'
  · have HF : Hid (has ls i ms = false) := Lib.hid (has_false (.inr (.inr (by rw [HN.out, HN'.out]; omega))))
    go_enter Try.func36, Try.ntmps36
    go_wp2
    go_ret
    exact ⟨ret_bool HF.out.symm, 0, rfl⟩
  go_enter Try.func36, Try.ntmps36
  go_wp2
  go_loopw [7] (fun t wr => ∃ k : Nat, k ≤ n' ∧ t = .int .i64 k ∧ (ls.drop i).take k = ms.take k ∧ ∃ d, wr = w.drewN d) (fun t _ => n' - (intOf t).toNat)
  case atStart => exact ⟨0, Nat.zero_le _, rfl, by simp, 0, rfl⟩
  case round =>
    obtain ⟨k, hk, rfl, hall, d, rfl⟩ := hrel
    have HA := Lib.hid hall; clear hall
    by_cases hlt : k < n'
    · have hkl : i + k < ls.length := by rw [HN.out]; omega
      have hkm : k < ms.length := by rw [HN'.out]; exact hlt
      obtain ⟨a, rfl, hcell⟩ := hR.at' hkl
      obtain ⟨a', rfl, hcell'⟩ := hR'.at' hkm
      have HD := Lib.hid (at_step HN'.out (by rw [HN.out]; omega) hlt HA.out hkl hkm)
      have hki : (k : Int) < (n' : Int) := by omega
      have hkj : i + k < n := by omega
      go_wp2
      go_quiet (fail)
      go_wp2
      · have hb : (!ls[i + k] == ms[k]) = true := by assumption
        go_ret
        exact ⟨ret_bool (HD.out.2 (by simpa using hb)).symm, d + nq, by simp⟩
      · have hb : (!ls[i + k] == ms[k]) = false := by assumption
        exact ⟨⟨k + 1, by omega, by go_num, HD.out.1 (by simpa using hb), _, rfl⟩, by simp [intOf]; omega⟩
    · have HF : Hid (has ls i ms = true) := Lib.hid (by
        rw [has_at (by rw [HN.out, HN'.out]; omega), HN'.out]
        have := HA.out
        rw [show k = n' by omega, List.take_of_length_le (l := ms) (by rw [HN'.out]; omega)] at this
        exact decide_eq_true this)
      go_wp2
      go_ret
      exact ⟨ret_bool HF.out.symm, _, rfl⟩

end Sq
end Go.Proofs.Ytkpgkbllcdpobaa

namespace Go.Proofs.Ytkpgkbllcdpobaa
open Go.RowKit
set_option linter.unusedVariables false
namespace Hk
open Tx Df Sq

set_option maxHeartbeats 1000000 in
theorem refSameH (A : Option Addr) (n c : Nat) (A' : Option Addr) (n' c' : Nat) (D : Option Addr) (m k : Nat) (D' : Option Addr) (m' k' B : Nat) (h g : HU) (w : World) (hB : B ≤ w.heap.size) (hv : HV w B A n c A' n' c' h) (gv : HV w B D m k D' m' k' g) :
    Calls Try.prog 14 #[hkV h.pos A n c A' n' c', hkV g.pos D m k D' m' k'] w (TestEnd w (sameH h g)) := by
  have HL := Lib.hid hv.l; have HL' := Lib.hid hv.l'; have GL := Lib.hid gv.l; have GL' := Lib.hid gv.l'
  have hm := hv.m; have hm' := hv.m'
  have R := Lib.hid hv.r; have R' := Lib.hid hv.r'; have Q := Lib.hid gv.r; have Q' := Lib.hid gv.r'
  clear hv gv
  obtain ⟨b, hb⟩ : ∃ b, sameH h g = b := ⟨_, rfl⟩
  rw [hb]
  have HS : Hid (b = (decide (h.pos = g.pos) && (decide (h.old = g.old) && decide (h.new = g.new)))) := Lib.hid (by rw [← hb]; rfl)
  clear hb
  generalize h.pos = p at *
  generalize g.pos = q at *
  go_enter Try.func14, Try.ntmps14
  go_wp2_with fail
  refine (Same _ _ _ _ _ _ B h.old g.old _ HL.out GL.out hm (rd_two R.out hB _ _ 0) (rd_two Q.out hB _ _ 0)).mono ?_
  rintro e w' ⟨rfl, d, rfl⟩
  go_wp2_with fail
  refine (Same _ _ _ _ _ _ B h.new g.new _ HL'.out GL'.out hm' (rd_two R'.out hB _ _ _) (rd_two Q'.out hB _ _ _)).mono ?_
  rintro e w' ⟨rfl, d', rfl⟩
  cases ho : decide (h.old = g.old) with
  | false =>
    have HO : Hid (b = false) := Lib.hid (by rw [HS.out, ho]; simp)
    clear ho HS
    go_wp2
    go_ret
    exact ⟨ret_bool (by rw [HO.out]), by simpa using below_two w _ _ _⟩
  | true =>
  cases hn : decide (h.new = g.new) with
  | false =>
    have HO : Hid (b = false) := Lib.hid (by rw [HS.out, hn]; simp)
    clear ho hn HS
    go_wp2
    go_ret
    exact ⟨ret_bool (by rw [HO.out]), by simpa using below_two w _ _ _⟩
  | true =>
  by_cases hp : p = q
  · have HO : Hid (b = true) := Lib.hid (by rw [HS.out, ho, hn, decide_eq_true hp]; rfl)
    clear ho hn HS
    subst hp
    go_wp2
    go_ret
    exact ⟨ret_bool (by rw [HO.out]), by simpa using below_two w _ _ _⟩
  · have HO : Hid (b = false) := Lib.hid (by rw [HS.out, decide_eq_false hp]; rfl)
    have hne : (p == q) = false := by rw [beq_eq_false_iff_ne]; exact hp
    clear ho hn HS hp
    go_wp2
    go_ret
    exact ⟨ret_bool (by rw [HO.out]), by simpa using below_two w _ _ _⟩

end Hk
end Go.Proofs.Ytkpgkbllcdpobaa

namespace Go.Proofs.Ytkpgkbllcdpobaa
open Go.RowKit
set_option linter.unusedVariables false
namespace Hk
open Tx Df

set_option maxRecDepth 100000 in
set_option maxHeartbeats 4000000 in
theorem refList (A A' : Option Addr) (c c' n B : Nat) (hs : List HU) (w : World) (hn : hs.length = n) (hnm : n ≤ maxLen) (hB : B ≤ w.heap.size) (hR : RdH w B A hs) (hR' : RdH w B A' hs) :
    Calls Try.prog 20 #[.slice A n c, .slice A' n c'] w (TestEnd w true) := by
  unfold maxLen at hnm
  have HN := Lib.hid hn; clear hn
  go_enter Try.func20, Try.ntmps20
  go_wp2_with fail
  go_loopw [5] (fun v5 wr => ∃ k : Nat, k ≤ n ∧ v5 = .int .i64 (k : Int) ∧ Below w.heap.size w wr) (fun v5 _ => n - (intOf v5).toNat)
  case atStart => exact ⟨0, Nat.zero_le _, rfl, Below.refl _ _⟩
  case round =>
    obtain ⟨k, hk, rfl, hb⟩ := hrel
    have HB := Lib.hid hb; clear hb
    by_cases hlt : k < n
    · have hkl : k < hs.length := by rw [HN.out]; exact hlt
      have hr1 := (hR.below (HB.out.mono hB))
      have hr2 := (hR'.below (HB.out.mono hB))
      obtain ⟨pa, rfl, hpa, hat⟩ := hr1.at_ hkl
      obtain ⟨pb, rfl, hpb, hbt⟩ := hr2.at_ hkl
      generalize hs[k] = g at *
      obtain ⟨q0, G1, e1, G2, e2, q1, q2, hv⟩ := hat
      obtain ⟨r0, H1, d1, H2, d2, r1, r2, hu⟩ := hbt
      have hBr : B ≤ wr.heap.size := Nat.le_trans hB HB.out.size
      have HC : Hid (∀ W, Below B wr W → (W.cell? (pa.add (k * 3)) = some (.int .i64 g.pos) ∧ W.cell? ⟨(pa.add (k * 3)).block, (pa.add (k * 3)).off + 1, none⟩ = some (.slice G1 g.old.length e1) ∧ W.cell? ⟨(pa.add (k * 3)).block, (pa.add (k * 3)).off + 2, none⟩ = some (.slice G2 g.new.length e2)) ∧
          W.cell? (pb.add (k * 3)) = some (.int .i64 g.pos) ∧ W.cell? ⟨(pb.add (k * 3)).block, (pb.add (k * 3)).off + 1, none⟩ = some (.slice H1 g.old.length d1) ∧ W.cell? ⟨(pb.add (k * 3)).block, (pb.add (k * 3)).off + 2, none⟩ = some (.slice H2 g.new.length d2)) := Lib.hid (fun W hb => by
        have ha : (pa.add (k * 3)).block < B := by rw [add_block]; exact hpa
        have hb' : (pb.add (k * 3)).block < B := by rw [add_block]; exact hpb
        exact ⟨⟨(hb.cell ha).trans q0, (hb.cell (p := ⟨(pa.add (k * 3)).block, (pa.add (k * 3)).off + 1, none⟩) ha).trans q1, (hb.cell (p := ⟨(pa.add (k * 3)).block, (pa.add (k * 3)).off + 2, none⟩) ha).trans q2⟩,
          (hb.cell hb').trans r0, (hb.cell (p := ⟨(pb.add (k * 3)).block, (pb.add (k * 3)).off + 1, none⟩) hb').trans r1, (hb.cell (p := ⟨(pb.add (k * 3)).block, (pb.add (k * 3)).off + 2, none⟩) hb').trans r2⟩)
      have HS : Hid (Calls Try.prog 14 #[hkV g.pos G1 g.old.length e1 G2 g.new.length e2, hkV g.pos H1 g.old.length d1 H2 g.new.length d2] wr.drew (TestEnd wr.drew true)) := Lib.hid (by
        have := refSameH G1 g.old.length e1 G2 g.new.length e2 H1 g.old.length d1 H2 g.new.length d2 B g g wr.drew hBr (hv.drewN 1) (hu.drewN 1)
        have e : sameH g g = true := by simp [sameH]
        rw [e] at this
        exact this)
      have HBR := Lib.hid hBr
      have t1 : (k : Int) < (n : Int) := by omega
      have t2 : (0 : Int) ≤ (k : Int) := by omega
      generalize g.old.length = ol at *
      generalize g.new.length = nl at *
      clear hr1 hr2 hpa hpb hv hu hBr
      go_wp2_with fail
      go_region_held3 (fun W => (W.cell? (pa.add (k * 3)) = some (.int .i64 g.pos) ∧ W.cell? ⟨(pa.add (k * 3)).block, (pa.add (k * 3)).off + 1, none⟩ = some (.slice G1 ol e1) ∧ W.cell? ⟨(pa.add (k * 3)).block, (pa.add (k * 3)).off + 2, none⟩ = some (.slice G2 nl e2)) ∧
          W.cell? (pb.add (k * 3)) = some (.int .i64 g.pos) ∧ W.cell? ⟨(pb.add (k * 3)).block, (pb.add (k * 3)).off + 1, none⟩ = some (.slice H1 ol d1) ∧ W.cell? ⟨(pb.add (k * 3)).block, (pb.add (k * 3)).off + 2, none⟩ = some (.slice H2 nl d2))
        (first
          | go_keep
          | (exact hS1))
        (first
          | (go_at_call 14; refine HS.out.mono ?_; rintro e w2 ⟨rfl, hb2⟩; have hbu := below_drewN (Below.refl wr.heap.size wr) 1; have hbv := hbu.trans hb2; have hS1 := HC.out w2 (hbv.mono HBR.out); have HU := Lib.hid hbv; clear hb2 hbu hbv))
      have HB2 := Lib.hid (HB.out.trans (HU.out.mono HB.out.size))
      clear q0 q1 q2 r0 r1 r2
      go_wp2
      go_roundw
      case rel => exact ⟨k + 1, by omega, by go_num, HB2.out⟩
      case measure => simp [intOf]; omega
    · obtain rfl : k = n := by omega
      go_wp2
      go_ret
      exact ⟨rfl, HB.out⟩

end Hk
end Go.Proofs.Ytkpgkbllcdpobaa

namespace Go.Proofs.Ytkpgkbllcdpobaa
open Go.RowKit
set_option linter.unusedVariables false
namespace Hk
open Tx Df Lc Sq

set_option maxRecDepth 100000 in
set_option maxHeartbeats 4000000 in
theorem hunkOf_walk (A : Option Addr) (n c : Nat) (a : List (List UInt8)) (A1 : Option Addr) (n1 c1 : Nat) (a1 : List (List UInt8)) (w : World) (h : StrArg w A n c a) (h1 : StrArg w A1 n1 c1 a1) :
    Calls Try.prog 4 #[.slice A n c, .slice A1 n1 c1] w (LawEnd w) := by
  go_enter Try.func4, Try.ntmps4
  go_wp2_with fail
  refine (awake w).mono ?_
  rintro e w1 ⟨rfl, hB1⟩
  go_wp2_with fail
  refine (Light _ _ _ _ 60 a _ h.len h.le (h.rd.below hB1) (by decide)).mono ?_
  rintro e w' ⟨rfl, rfl⟩
  go_wp2_with fail
  refine (Light _ _ _ _ 60 a1 _ h1.len h1.le (h1.rd.below hB1) (by decide)).mono ?_
  rintro e w' ⟨rfl, rfl⟩
  cases hl : light a 60 with
  | false =>
    clear hl
    go_wp2
    go_ret
    exact ⟨rfl, hB1⟩
  | true =>
  have hn := light_len hl h.len
  clear hl
  cases hl : light a1 60 with
  | false =>
    clear hl
    go_wp2
    go_ret
    exact ⟨rfl, hB1⟩
  | true =>
  have hn1 := light_len hl h1.len
  clear hl
  have HB1 := Lib.hid hB1
  clear hB1
  go_wp2_with fail
  refine (Of A A1 c c1 n n1 w.heap.size a a1 w1 h.len h1.len h.cap h1.cap (by omega) (by omega) HB1.out.size (h.rd.below HB1.out) (h1.rd.below HB1.out)).mono ?_
  have hNle : (hks a 0 (edits a a1)).length ≤ 120 := by
    rw [hks_len]
    have := edits_len_le a a1
    rw [h.len, h1.len] at this
    omega
  have HRO := Lib.hid (fun (W : World) (hb : Below w.heap.size w W) => refOf A A1 c c1 n n1 w.heap.size a a1 W h.len h1.len h.cap h1.cap (by omega) (by omega) hb.size (h.rd.below hb) (h1.rd.below hb))
  generalize hks a 0 (edits a a1) = hs at *
  obtain ⟨N, hN⟩ : ∃ N, hs.length = N := ⟨_, rfl⟩
  rw [hN] at hNle
  rintro e w2 ⟨A5, c5, rfl, hc5, hH, hb2⟩
  rw [hN] at hc5 ⊢
  have HB2 := Lib.hid (HB1.out.trans (hb2.mono HB1.out.size))
  have HH := Lib.hid hH; have HN := Lib.hid hN
  clear hH hb2 hN
  go_wp2_with fail
  refine (HRO.out w2 HB2.out).mono ?_
  rintro e w3 ⟨A6, c6, rfl, hc6, hH6, hb3⟩
  rw [HN.out] at hc6 ⊢
  have HB3 := Lib.hid (HB2.out.trans (hb3.mono HB2.out.size))
  have HH5 := Lib.hid ((HH.out.below hb3).up hb3.size)
  have HH6 := Lib.hid hH6
  have hN63 : N ≤ maxLen := by unfold maxLen; omega
  clear hH6 hb3
  go_wp2_with fail
  refine (refList A5 A6 c5 c6 N w3.heap.size hs w3 HN.out hN63 (Nat.le_refl _) HH5.out HH6.out).mono ?_
  rintro e w4 ⟨rfl, hb4⟩
  have HB4 := Lib.hid (HB3.out.trans (hb4.mono HB3.out.size))
  clear hb4
  go_wp2
  go_ret
  exact ⟨rfl, HB4.out⟩

end Hk
open Tx Df Hk
open Go.ChangeShapes Go.WideShapes Go.ChangeAt

theorem hunkOf_own : ownKnob Try.prog.godebug = none := by kernel_rfl
theorem hunkOf_laidOut : laidOutB Try.prog = true := by kernel_rfl

set_option maxRecDepth 100000 in
theorem hunkOf_lifted (os : Os) (started : os.Started) (H : Type) (enc : TypeId × Value → H) :
    ReturnsInHanded {} Try.checked os 4 .any (Rows.hunkOfSpec.pre6 enc Try.prog Try.f4 Rows.hunkOfRow.domain false) (Rows.hunkOfSpec.post enc Try.prog Try.f4 false true false false) := by
  refine returnsInHanded_of_change (C := Try.checked) hunkOf_own started (by kernel_rfl) Try.func4
    (ChangeSpec.witness6 (enc := enc) (C := Try.checked) false ⟨#[], #[.slice none 0 0, .slice none 0 0], []⟩ 8 (by kernel_rfl) (by kernel_rfl) (by kernel_rfl) (by kernel_rfl)) ?_
  intro W base args ds gs before hval0 hW hcnd _
  have hval : ∀ (j : Nat) t v, Try.f4.params[j]? = some t → args[j]? = some v → Value.okWide Try.prog W .any base t v := hval0
  have hW' := hW
  obtain ⟨p, q, hA0, hV, rfl, hfz, hnd⟩ := hW
  have hA : DataW.TrodAll enc Try.prog W 0 (fun _ => true) true Try.f4.params.toList args.toList ds p := hA0
  rw [Try.params4] at hA hval
  obtain ⟨v0, vs0, d0, ds0, p0, q0, hargs, rfl, rfl, h0, r0⟩ := trodAll_cons hA
  obtain ⟨v1, vs1, d1, ds1, p1, q1, rfl, rfl, rfl, h1, r1⟩ := trodAll_cons r0
  obtain ⟨rfl, rfl, rfl⟩ := trodAll_nil r1
  obtain rfl : args = #[v0, v1] := by cases args; simp_all
  obtain ⟨rfl, rfl⟩ := trodVars_none hV
  obtain ⟨a0, n0, c0, rfl⟩ := okWide_slice Try.underlying22 (hval 0 22 v0 rfl rfl)
  have k0 := h0
  have lt0 : ∀ x ∈ p0, x.block < W.heap.size := by obtain ⟨m, hm⟩ := k0; exact DataW.trod_lt m _ _ _ hm
  obtain ⟨l0, s0⟩ : ∃ l, StrArg W a0 n0 c0 l := by
    obtain ⟨fuel, hf⟩ := h0
    exact strs_in hf (by simp [Value.cells])
  obtain ⟨a1, n1, c1, rfl⟩ := okWide_slice Try.underlying22 (hval 1 22 v1 rfl rfl)
  have k1 := h1
  have lt1 : ∀ x ∈ p1, x.block < W.heap.size := by obtain ⟨m, hm⟩ := k1; exact DataW.trod_lt m _ _ _ hm
  obtain ⟨l1, s1⟩ : ∃ l, StrArg W a1 n1 c1 l := by
    obtain ⟨fuel, hf⟩ := h1
    exact strs_in hf (by simp [Value.cells])
  clear hA0 hval0
  refine (hunkOf_walk a0 n0 c0 l0 a1 n1 c1 l1 W s0 s1).mono fun e W' ⟨he, bel⟩ => ?_
  subst he
  exact ⟨_, rfl, _, _, _, [], _, [], hW', trodAll_mk1 (shut_bool Try.underlying4 _), (trodAll_cons_mk (Below.trod hunkOf_laidOut (by kernel_rfl) (of_decide_eq_true (by kernel_rfl)) k0 bel lt0) (trodAll_cons_mk (Below.trod hunkOf_laidOut (by kernel_rfl) (of_decide_eq_true (by kernel_rfl)) k1 bel lt1) trodAll_mk0)), rfl, bel.frame _, fun h => by cases h⟩

/-- The statement. -/
theorem hunkOf_proved : Rows.HunkOfSaid :=
  OpenClaim.holds_of_wide 4 Try.f4 rfl rfl rfl rfl rfl rfl rfl ⟨rfl, rfl, rfl, rfl, rfl⟩ rfl rfl rfl rfl rfl (by kernel_rfl) Try.func4 (by kernel_rfl)
    (of_decide_eq_true (by kernel_rfl)) (by unfold Func.isWrapper; first | (rw [if_pos (by decide +kernel)]; kernel_rfl) | (rw [if_neg (by decide +kernel)]; exact ⟨rfl, rfl⟩))
    (fun os started H enc _ => hunkOf_lifted os started H enc)

#print axioms hunkOf_proved
end Go.Proofs.Ytkpgkbllcdpobaa
