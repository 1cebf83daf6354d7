/-
  What slices.AppendSeq and slices.Collect (over the parts of a list), cut and root of layer 3 return (walks).
-/
import Derived.Test.YtkpgkbllcdpobaaLcCut
namespace Go.Proofs.Ytkpgkbllcdpobaa
open Go.RowKit Go.Shelf
set_option linter.unusedVariables false
namespace Lc
open Tx Rg
attribute [local go_sem] Oper.semAt_some

theorem info_strs : (Try.prog.info? 22).map (fun i => (i.zero, i.size, i.bytes)) = some (some (.slice none 0 0), 1, 24) := by kernel_rfl

theorem chV_form (A : Option Addr) (sz m : Nat) : ∀ (f i : Nat), m - i ≤ f → ∀ u ∈ chV A sz m i, ∃ A' n c, u = .slice A' n c
  | f, i, hf, u, hu => by
    unfold chV at hu
    split at hu
    · rename_i h
      cases f with
      | zero => omega
      | succ f =>
        rcases List.mem_cons.1 hu with rfl | hu
        · exact ⟨_, _, _, rfl⟩
        · exact chV_form A sz m f (i + sz) (by omega) u hu
    · cases hu

/-- How a call ends that answers slices in a row of its own. -/
def SlEnd (w : World) (vs : List Value) (e : Ending) (w' : World) : Prop :=
  ∃ v, e = .returned v ∧ w'.ownsRow w.heap.size 22 1 v vs.length vs ∧ Below w.heap.size w w'

def AppInv (w : World) (pre : List Value) (W : World) : Prop :=
  (∃ v, Boxed W w.heap.size 76 v ∧ W.ownsRow w.heap.size 22 1 v pre.length pre) ∧ Below w.heap.size w W
theorem appInv_ab (w : World) {B : Nat} (hB : w.heap.size ≤ B) : Ab Plain B (AppInv w) :=
  Ab.and (ab_ex fun v => Ab.and (ab_boxed (fun _ => v) (fun _ => plain_cells _ _ _)) (ab_row _ _ (fun _ => plain_cells _ _ _))) (ab_below (Nat.le_refl _) hB)

set_option maxRecDepth 100000 in
set_option maxHeartbeats 2000000 in
theorem AppendSeq (A : Option Addr) (Bs Bn n₁ cap m sz : Nat) (ls : List (List UInt8)) (w : World) (hm : ls.length = m) (hmc : m ≤ cap) (hle : m ≤ 1000) (hz : 1 ≤ sz) (hz' : sz ≤ 1000) (hBs : Boxed w Bs 22 (.slice A m cap)) (hBn : Boxed w Bn 3 (.int .i64 (sz : Int))) (hn : n₁ ≤ w.heap.size) (hR : RdS w n₁ A ls) :
    Calls Try.prog 60 #[.slice none 0 0, .func (.func 61) #[] #[.pointer (some ⟨Bs, 0, none⟩), .pointer (some ⟨Bn, 0, none⟩)]] w (SlEnd w (chV A sz m 0)) := by
  obtain ⟨i0, hi, hz0, hz1, hz2⟩ := info_parts info_strs
  have HM := Lib.hid hm; clear hm
  refine (callsIn_wide (n := 3)).1 ?_
  refine callsIn_of_wp_marks Try.func60 rfl trivial ?_ rfl
  simp only [Try.ntmps60, List.size_toArray, List.length_cons, List.length_nil, Nat.reduceAdd, Nat.reduceSub, Array.replicate_succ, Array.replicate_zero, List.push_toArray, List.append_toArray, List.nil_append, List.cons_append]
  gi_wp2
  have hB0 := Boxed.new w 76 (.slice none 0 0)
  have hw1 : Below w.heap.size w (w.alloc (.cells #[.slice none 0 0] 76)) := (Below.refl _ _).alloc (Nat.le_refl _) _
  refine range_law' (n := 3) (gf := 61) (lb := #[.pointer (some ⟨Bs, 0, none⟩), .pointer (some ⟨Bn, 0, none⟩)]) rfl (enters_of Try.func61 (by kernel_rfl) rfl) (Free := Plain) (fun _ h => h)
    (chunk_gives 2 Bs Bn n₁ cap m sz A ls HM.out hmc hle hz hz' _ (hBs.alloc _) (hBn.alloc _) (by simp; omega) (hR.below (hw1.mono hn))) kpC_t (kpC_b (by simp; omega) (by have := hBs.lt; simp; omega) (by have := hBn.lt; simp; omega)) kpC_r (fun _ => rfl)
    (AppInv w) (fun _ _ _ => False) (appInv_ab w (by simp)) (fun _ => ab_pure _ _ _) ⟨⟨_, hB0, World.ownsRow_nil _ _ _ _⟩, hw1⟩ ?a1 ?assign ?body ?done ?stop
  case assign =>
    intro l x W K hK
    gi_wp2
    exact hK
  case body =>
    rintro l pre post x W hfull ⟨⟨v, hv, hrow⟩, hB⟩
    obtain ⟨A', n', c', rfl⟩ := chV_form A sz m m 0 (by omega) x (by rw [hfull]; simp)
    have hlen := chV_len A sz m m 0 (by omega)
    rw [hfull] at hlen
    simp at hlen
    have hc := hv.cell
    have hw := hB.size
    have hsB := hBs.lt
    have hnB := hBn.lt
    clear hfull
    gi_wp2_with (gi_at_builtin; refine wpListIn_append_own _ rfl _ _ 76 rfl w.heap.size 22 i0 (.slice none 0 0) 1 24 Try.underlying76 hi hz0 hz1 hz2 rfl (by decide) _ _ _ rfl (hrow.alloc _) ⟨W.heap.size, 0, none⟩ 1 1 [.slice A' n' c'] rfl rfl (cell_one_new _ _ _) (by simp [Value.oneCell']) (by unfold maxLen; omega) (by omega) (by simp; omega) ?_; intro v' w1 hown' hgrow _; obtain ⟨g', cap', rfl⟩ := ownsRow_succ hown'; obtain ⟨hv1, hv2, hr2, hk2, hb2⟩ := hv.appended (by decide) hrow hB.size (by omega) hown' hgrow; have hc1 := hv1.cell; have hf1 := hv1.frozen)
    refine ⟨hk2.from _, ⟨hb2.mono hn, fun u hu => (hb2.block Bs hsB).trans hu, fun u hu => (hb2.block Bn hnB).trans hu⟩, ⟨_, hv2, ?_⟩, hB.trans hb2⟩
    rw [List.length_append]
    exact hr2
  case done =>
    rintro D W hD ⟨⟨v, hv, hrow⟩, hB⟩ hK
    have hc := hv.cell
    obtain ⟨Av, cv, rfl, hcv, hrd⟩ := rd_of_own hrow
    gi_wp2
    refine ⟨by simp, .inl ⟨_, _, rfl, run_takeDeferred hK, ?_⟩⟩
    refine ⟨_, results_tmp rfl _ _ _, _, rfl, ownsRow_putObj hrow _ hK rfl, ?_⟩
    exact hB.grown (grownBy_putObj' _ D _) hB.size (fun j e => by cases e; simp at hD; omega)
  case stop =>
    rintro D c pre post W _ _ h _
    exact h.elim

theorem Collect (A : Option Addr) (Bs Bn n₁ cap m sz : Nat) (ls : List (List UInt8)) (w : World) (hm : ls.length = m) (hmc : m ≤ cap) (hle : m ≤ 1000) (hz : 1 ≤ sz) (hz' : sz ≤ 1000) (hBs : Boxed w Bs 22 (.slice A m cap)) (hBn : Boxed w Bn 3 (.int .i64 (sz : Int))) (hn : n₁ ≤ w.heap.size) (hR : RdS w n₁ A ls) :
    Calls Try.prog 56 #[.func (.func 61) #[] #[.pointer (some ⟨Bs, 0, none⟩), .pointer (some ⟨Bn, 0, none⟩)]] w (SlEnd w (chV A sz m 0)) := by
  have HM := Lib.hid hm; clear hm
  go_enter Try.func56, Try.ntmps56
  go_wp2_with fail
  refine (AppendSeq A Bs Bn n₁ cap m sz ls _ HM.out hmc hle hz hz' hBs hBn hn hR).mono ?_
  rintro e w' ⟨v, rfl, hrow, hb⟩
  obtain ⟨Av, cv, rfl, hcv, hrd⟩ := rd_of_own hrow
  have HR := Lib.hid hrow; clear hrow hrd
  go_wp2
  go_ret
  exact ⟨_, rfl, HR.out, hb⟩

/-- How cut ends: the parts, in a row of its own. -/
def CutEnd (w : World) (B : Nat) (ps : List (List (List UInt8))) (e : Ending) (w' : World) : Prop :=
  ∃ v vs, e = .returned v ∧ w'.ownsRow w.heap.size 22 1 v ps.length vs ∧ Parts w' B vs ps ∧ Below w.heap.size w w'

set_option maxHeartbeats 400000 in
theorem Cut (A : Option Addr) (cap m sz B : Nat) (ls : List (List UInt8)) (w : World) (hm : ls.length = m) (hmc : m ≤ cap) (hle : m ≤ 1000) (hz : 1 ≤ sz) (hz' : sz ≤ 1000) (hB : B ≤ w.heap.size) (hR : RdS w B A ls) :
    Calls Try.prog 52 #[.slice A m cap, .int .i64 (sz : Int)] w (CutEnd w B (ch sz ls 0)) := by
  have HM := Lib.hid hm; clear hm
  go_enter Try.func52, Try.ntmps52
  go_wp2_with fail
  refine ((callsIn_wide (n := 0)).1 (chunk_in 0 A m cap sz w hz hz')).mono ?_
  rintro e w' ⟨rfl, rfl⟩
  have hb1 := (Boxed.new w 22 (.slice A m cap)).alloc (.cells #[.int .i64 (sz : Int)] 3)
  have hb2 := Boxed.new (w.alloc (.cells #[.slice A m cap] 22)) 3 (.int .i64 (sz : Int))
  rw [World.size_alloc] at hb2
  have hw2 : Below w.heap.size w ((w.alloc (.cells #[.slice A m cap] 22)).alloc (.cells #[.int .i64 (sz : Int)] 3)) := ((Below.refl _ _).alloc (Nat.le_refl _) _).alloc (by simp) _
  go_wp2_with fail
  refine (Collect A _ _ B cap m sz ls _ HM.out hmc hle hz hz' hb1 hb2 (by simp; omega) (hR.below (hw2.mono hB))).mono ?_
  rintro e w' ⟨v, rfl, hrow, hb⟩
  have hp := parts_ch hR (sz := sz) (by omega) m 0 (by rw [HM.out]; omega)
  rw [HM.out] at hp
  have hlen := hp.1
  rw [hlen] at hrow
  obtain ⟨Av, cv, rfl, hcv, hrd⟩ := rd_of_own hrow
  have hbb := hw2.trans (hb.mono (by simp; omega))
  have HR : Hid (CutEnd w B (ch sz ls 0) (.returned (.slice Av (ch sz ls 0).length cv)) w') := Lib.hid ⟨_, _, rfl, own_mono hrow (by simp; omega), hp.below (hbb.mono hB), hbb⟩
  clear hrow hrd hp hlen hb hcv
  go_wp2
  go_ret
  exact HR.out

set_option maxHeartbeats 400000 in
/-- root answers a number from 1 on, not beyond 1000. -/
theorem Root (n : Nat) (w : World) (hn : n ≤ 1000) : Calls Try.prog 53 #[.int .i64 (n : Int)] w fun e w' => (∃ r : Nat, 1 ≤ r ∧ r ≤ 1000 ∧ e = .returned (.int .i64 (r : Int))) ∧ w = w' := by
  go_enter Try.func53, Try.ntmps53
  go_wp2
  go_loop [3] (fun i => ∃ r : Nat, 1 ≤ r ∧ r ≤ 100 ∧ i = .int .i64 (r : Int)) (fun i => 100 - (intOf i).toNat)
  case atStart => exact ⟨1, by omega, by omega, rfl⟩
  case round =>
    obtain ⟨r, h1, h2, rfl⟩ := hrel
    have hmul : ((r : Int) * (r : Int)) = ((r * r : Nat) : Int) := by simp
    have hb : r * r ≤ 10000 := Nat.mul_le_mul h2 h2
    have hb' : (r : Int) * (r : Int) ≤ 10000 := by omega
    have hb0 : (0 : Int) ≤ (r : Int) * (r : Int) := by omega
    by_cases hlt : (r : Int) * (r : Int) < (n : Int)
    · have hr : r < 100 := by
        rcases Nat.lt_or_ge r 100 with h | h
        · exact h
        · have := Nat.mul_le_mul h h; omega
      clear hmul
      go_wp2
      go_round
      case rel => exact ⟨r + 1, by omega, by omega, by go_num⟩
      case measure => simp [intOf]; omega
    · clear hmul
      go_wp2
      go_ret
      exact ⟨⟨r, h1, by omega, rfl⟩, rfl⟩

end Lc
end Go.Proofs.Ytkpgkbllcdpobaa
