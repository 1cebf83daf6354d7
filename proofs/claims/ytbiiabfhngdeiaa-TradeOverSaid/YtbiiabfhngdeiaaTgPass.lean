/-
  What package trade's Pass returns (walk): two patches, the second one ahead of the first one.
-/
import Derived.Test.YtbiiabfhngdeiaaTgLeaf
import Derived.Test.YtbiiabfhngdeiaaTgWith
import Derived.Test.YtbiiabfhngdeiaaFlPass
import Derived.Deep.RegionWith
import Derived.Deep.RegionHeld3
import Derived.BigQuiet
set_option maxRecDepth 100000
namespace Go.Proofs.Ytbiiabfhngdeiaa
open Go.RowKit
set_option linter.unusedVariables false
set_option linter.unusedSimpArgs false
namespace Tg
open Tx Df Sq Hk Tr Pr Fl Pn

def outN (o : Option (Nm × Nm)) : Nm × Nm := o.getD (noN, noN)
/-- How a call of Pass ends that tells x, y and bo, in memory that is new. -/
def NPassEnd (w : World) (x y : Nm) (bo : Bool) (e : Ending) (w' : World) : Prop :=
  ∃ D1 d1 e1 A1 n1 c1 D2 d2 e2 A2 n2 c2, e = .returned (.tuple #[nmV x.id D1 d1 e1 x.txt A1 n1 c1, nmV y.id D2 d2 e2 y.txt A2 n2 c2, .bool bo]) ∧ NG w' (Since w w') D1 d1 e1 A1 n1 c1 x ∧ NG w' (Since w w') D2 d2 e2 A2 n2 c2 y ∧ Below w.heap.size w w'

theorem four_blk (w : World) (t0 t1 t2 t3 : TypeId) (c0 c1 c2 c3 : Array Value) : let W := (((w.alloc (.cells c0 t0)).alloc (.cells c1 t1)).alloc (.cells c2 t2)).alloc (.cells c3 t3)
    Blk W w.heap.size t0 c0 ∧ Blk W (w.heap.size + 1) t1 c1 ∧ Blk W (w.heap.size + 1 + 1) t2 c2 ∧ Blk W (w.heap.size + 1 + 1 + 1) t3 c3 ∧ Below w.heap.size w W := by
  intro W
  have b0 := (((Blk.new w t0 c0).alloc (.cells c1 t1)).alloc (.cells c2 t2)).alloc (.cells c3 t3)
  have b1 := ((Blk.new (w.alloc (.cells c0 t0)) t1 c1).alloc (.cells c2 t2)).alloc (.cells c3 t3)
  have b2 := (Blk.new ((w.alloc (.cells c0 t0)).alloc (.cells c1 t1)) t2 c2).alloc (.cells c3 t3)
  have b3 := Blk.new (((w.alloc (.cells c0 t0)).alloc (.cells c1 t1)).alloc (.cells c2 t2)) t3 c3
  simp only [World.size_alloc] at b1 b2 b3
  exact ⟨b0, b1, b2, b3, (((((Below.refl _ _).alloc (Nat.le_refl _) _).alloc (by simp) _).alloc (by simp; omega) _).alloc (by simp; omega) _)⟩
theorem npass_none {w w' : World} {x y : Nm} {bo : Bool} {o : Option (Nm × Nm)} (h : o = none) (ho : outN o = (x, y)) (hb : o.isSome = bo) (hw : Below w.heap.size w w') : NPassEnd w x y bo (.returned (.tuple #[.agg #[.int .i64 0, .int .i64 0, .slice none 0 0, .string ⟨#[]⟩, .slice none 0 0], .agg #[.int .i64 0, .int .i64 0, .slice none 0 0, .string ⟨#[]⟩, .slice none 0 0], .bool false])) w' := by
  subst h
  injection ho with h1 h2
  subst h1 h2 hb
  exact ⟨none, 0, 0, none, 0, 0, none, 0, 0, none, 0, 0, rfl, ng_no _ _, ng_no _ _, hw⟩

/-- Two boxes of five cells are set. -/
theorem two5 {W w : World} {B g : Nat} {t : TypeId} {a0 a1 a2 a3 a4 b0 b1 b2 b3 b4 : Value} (h1 : Blk W g t #[a0, a1, a2, a3, a4]) (h2 : Blk W (g + 1) t #[b0, b1, b2, b3, b4]) (hb : Below B w W) (hg : B ≤ g) (v0 v1 v2 v3 v4 u0 u1 u2 u3 u4 : Value) :
    let W' := (((((((((W.setCell ⟨g, 0, none⟩ v0).setCell ⟨g, 1, none⟩ v1).setCell ⟨g, 2, none⟩ v2).setCell ⟨g, 3, none⟩ v3).setCell ⟨g, 4, none⟩ v4).setCell ⟨g + 1, 0, none⟩ u0).setCell ⟨g + 1, 1, none⟩ u1).setCell ⟨g + 1, 2, none⟩ u2).setCell ⟨g + 1, 3, none⟩ u3).setCell ⟨g + 1, 4, none⟩ u4
    Blk W' g t #[v0, v1, v2, v3, v4] ∧ Blk W' (g + 1) t #[u0, u1, u2, u3, u4] ∧ Below B w W' ∧ W'.heap.size = W.heap.size ∧ Fl.Alike (fun b => b ≠ g ∧ b ≠ g + 1) W W' := by
  intro W'
  refine ⟨blk_set5 (blk5 h1 _ _ _ _ _) (by omega) _ _ _ _ _, blk5 (blk_set5 h2 (by omega) _ _ _ _ _) _ _ _ _ _, below_set5 (below_set5 hb hg _ _ _ _ _) (by omega) _ _ _ _ _, by simp [W'], ?_⟩
  exact ((alike_set5 W g v0 v1 v2 v3 v4).mono fun b hb => hb.1).trans_ ((alike_set5 _ (g + 1) u0 u1 u2 u3 u4).mono fun b hb => hb.2) (by simp)

set_option maxRecDepth 100000 in
set_option maxHeartbeats 2000000 in
theorem PassN (D : Option Addr) (dn dc : Nat) (A : Option Addr) (n c : Nat) (D' : Option Addr) (dn' dc' : Nat) (A' : Option Addr) (n' c' : Nat) (p q x y : Nm) (w : World) (bo : Bool) (hle : n ≤ 1000) (hle' : n' ≤ 1000) (hd : dn ≤ 100000) (hd' : dn' ≤ 100000) (hl : Lt p.l) (hl' : Lt q.l)
    (hv : NV w w.heap.size D dn dc A n c p) (hv' : NV w w.heap.size D' dn' dc' A' n' c' q) (ho : outN (passN p q) = (x, y)) (hs : (passN p q).isSome = bo) :
    Calls Try.prog 10 #[nmV p.id D dn dc p.txt A n c, nmV q.id D' dn' dc' q.txt A' n' c'] w (NPassEnd w x y bo) := by
  have HV := Lib.hid hv; have HV' := Lib.hid hv'; have HO := Lib.hid ho; have HS := Lib.hid hs; have HL := Lib.hid hl; have HL' := Lib.hid hl'
  clear hv hv' ho hs hl hl'
  go_enter Try.func10, Try.ntmps10
  go_upto_region 1 with fail
  obtain ⟨b0, b1, b2, b3, hba⟩ := four_blk w 28 28 28 28 #[.int .i64 p.id.1, .int .i64 p.id.2, .slice D dn dc, strV p.txt, .slice A n c] #[.int .i64 q.id.1, .int .i64 q.id.2, .slice D' dn' dc', strV q.txt, .slice A' n' c'] #[.int .i64 0, .int .i64 0, .slice none 0 0, .string ⟨#[]⟩, .slice none 0 0] #[.int .i64 0, .int .i64 0, .slice none 0 0, .string ⟨#[]⟩, .slice none 0 0]
  generalize ((((w.alloc (.cells #[.int .i64 p.id.1, .int .i64 p.id.2, .slice D dn dc, strV p.txt, .slice A n c] 28)).alloc (.cells #[.int .i64 q.id.1, .int .i64 q.id.2, .slice D' dn' dc', strV q.txt, .slice A' n' c'] 28)).alloc (.cells #[.int .i64 0, .int .i64 0, .slice none 0 0, .string ⟨#[]⟩, .slice none 0 0] 28)).alloc (.cells #[.int .i64 0, .int .i64 0, .slice none 0 0, .string ⟨#[]⟩, .slice none 0 0] 28)) = w1 at b0 b1 b2 b3 hba ⊢
  obtain ⟨z, hz⟩ : ∃ z, w.heap.size = z := ⟨_, rfl⟩
  rw [hz] at b0 b1 b2 b3 ⊢
  have HZ := Lib.hid hz
  have HB0 := Lib.hid b0; have HB1 := Lib.hid b1; have HB2 := Lib.hid b2; have HB3 := Lib.hid b3; have HBW := Lib.hid hba
  replace HV := Lib.hid (HV.out.mv hba); replace HV' := Lib.hid (HV'.out.mv hba)
  clear b0 b1 b2 b3 hba hz
  have x0 := HB0.out.cell 0 rfl; have x1 := HB0.out.cell 1 rfl; have y2 := HB1.out.cell 2 rfl
  have l0 := HB0.out.lt; have l1 := HB1.out.lt
  go_wp2_with fail
  obtain ⟨bm, hbm⟩ : ∃ b, decide (p.id ∈ q.deps) = b := ⟨_, rfl⟩
  refine (ContainsI p.id D' dn' dc' w1.heap.size q.deps w1 bm HV'.out.dl (by omega) (Nat.le_refl _) HV'.out.dr hbm).mono ?_
  rintro e w2 ⟨rfl, hb⟩
  have HM := Lib.hid hbm
  clear hbm x0 x1 y2 l0 l1
  replace HB0 := Lib.hid (HB0.out.below hb HB0.out.lt); replace HB1 := Lib.hid (HB1.out.below hb HB1.out.lt); replace HB2 := Lib.hid (HB2.out.below hb HB2.out.lt); replace HB3 := Lib.hid (HB3.out.below hb HB3.out.lt)
  replace HV := Lib.hid (HV.out.mv hb); replace HV' := Lib.hid (HV'.out.mv hb); replace HBW := Lib.hid (below_mv HBW.out hb)
  clear hb
  have r0 := HB2.out.cell 0 rfl; have r1 := HB2.out.cell 1 rfl; have r2 := HB2.out.cell 2 rfl; have r3 := HB2.out.cell 3 rfl; have r4 := HB2.out.cell 4 rfl
  have s0 := HB3.out.cell 0 rfl; have s1 := HB3.out.cell 1 rfl; have s2 := HB3.out.cell 2 rfl; have s3 := HB3.out.cell 3 rfl; have s4 := HB3.out.cell 4 rfl
  have f0 := HB2.out.frozen 0; have f1 := HB2.out.frozen 1; have f2 := HB2.out.frozen 2; have f3 := HB2.out.frozen 3; have f4 := HB2.out.frozen 4
  have g0 := HB3.out.frozen 0; have g1 := HB3.out.frozen 1; have g2 := HB3.out.frozen 2; have g3 := HB3.out.frozen 3; have g4 := HB3.out.frozen 4
  have x4 := HB0.out.cell 4 rfl; have y4 := HB1.out.cell 4 rfl
  have l0 := HB0.out.lt; have l1 := HB1.out.lt; have l2 := HB2.out.lt; have l3 := HB3.out.lt
  cases bm with
  | true =>
    have HE : Hid (passN p q = none) := Lib.hid (by unfold passN; rw [if_pos (of_decide_eq_true HM.out)])
    go_wp2_with fail
    have hT := two5 HB2.out HB3.out HBW.out (show w.heap.size ≤ z + 1 + 1 by have := HZ.out; omega) (.int .i64 0) (.int .i64 0) (.slice none 0 0) (.string ⟨#[]⟩) (.slice none 0 0) (.int .i64 0) (.int .i64 0) (.slice none 0 0) (.string ⟨#[]⟩) (.slice none 0 0)
    clear r0 r1 r2 r3 r4 s0 s1 s2 s3 s4 f0 f1 f2 f3 f4 g0 g1 g2 g3 g4 x4 y4 l0 l1 l2 l3
    generalize (World.setCell (World.setCell (World.setCell (World.setCell (World.setCell (World.setCell (World.setCell (World.setCell (World.setCell (World.setCell w2 ⟨z + 1 + 1, 0, none⟩ (.int .i64 0)) ⟨z + 1 + 1, 1, none⟩ (.int .i64 0)) ⟨z + 1 + 1, 2, none⟩ (.slice none 0 0)) ⟨z + 1 + 1, 3, none⟩ (.string ⟨#[]⟩)) ⟨z + 1 + 1, 4, none⟩ (.slice none 0 0)) ⟨z + 1 + 1 + 1, 0, none⟩ (.int .i64 0)) ⟨z + 1 + 1 + 1, 1, none⟩ (.int .i64 0)) ⟨z + 1 + 1 + 1, 2, none⟩ (.slice none 0 0)) ⟨z + 1 + 1 + 1, 3, none⟩ (.string ⟨#[]⟩)) ⟨z + 1 + 1 + 1, 4, none⟩ (.slice none 0 0)) = w9 at *
    obtain ⟨t1, t2, t3, t4, t5⟩ := hT
    have u0 := t1.cell 0 rfl; have u1 := t1.cell 1 rfl; have u2 := t1.cell 2 rfl; have u3 := t1.cell 3 rfl; have u4 := t1.cell 4 rfl
    have v0 := t2.cell 0 rfl; have v1 := t2.cell 1 rfl; have v2 := t2.cell 2 rfl; have v3 := t2.cell 3 rfl; have v4 := t2.cell 4 rfl
    refine bodyPost_ret (v := .tuple #[.agg #[.int .i64 0, .int .i64 0, .slice none 0 0, .string ⟨#[]⟩, .slice none 0 0], .agg #[.int .i64 0, .int .i64 0, .slice none 0 0, .string ⟨#[]⟩, .slice none 0 0], .bool false]) (by simp [results, Try.results10, go_sem, u0, u1, u2, u3, u4, v0, v1, v2, v3, v4]) rfl ?_
    exact npass_none HE.out HO.out HS.out t3
  | false =>
    have HNM : Hid (p.id ∉ q.deps) := Lib.hid (of_decide_eq_false HM.out)
    go_wp2_with fail
    obtain ⟨⟨lx, ly⟩, hol⟩ : ∃ z, outF (passF p.l q.l) = z := ⟨_, rfl⟩
    obtain ⟨bl, hbl⟩ : ∃ b, (passF p.l q.l).isSome = b := ⟨_, rfl⟩
    refine (PassLH A n c A' n' c' p.l q.l lx ly w2 bl HV.out.l HV'.out.l hle hle' HL.out HL'.out HV.out.r HV'.out.r hol hbl).mono ?_
    rintro e w3 ⟨E1, k1, E2, k2, rfl, hk1, hk2, hr1, hr2, hb⟩
    have HOL := Lib.hid hol; have HBL := Lib.hid hbl
    clear hol hbl r0 r1 r2 r3 r4 s0 s1 s2 s3 s4 f0 f1 f2 f3 f4 g0 g1 g2 g3 g4 x4 y4 l0 l1 l2 l3
    have hsw : z + 4 ≤ w2.heap.size := HB3.out.lt
    have HR1 := Lib.hid (hr1.mono fun b hb => (⟨Nat.le_trans hsw hb.1, hb.2⟩ : z + 4 ≤ b ∧ b < w3.heap.size)); have HR2 := Lib.hid (hr2.mono fun b hb => (⟨Nat.le_trans hsw hb.1, hb.2⟩ : z + 4 ≤ b ∧ b < w3.heap.size)); have HK1 := Lib.hid hk1; have HK2 := Lib.hid hk2
    replace HB0 := Lib.hid (HB0.out.below hb HB0.out.lt); replace HB1 := Lib.hid (HB1.out.below hb HB1.out.lt); replace HB2 := Lib.hid (HB2.out.below hb HB2.out.lt); replace HB3 := Lib.hid (HB3.out.below hb HB3.out.lt)
    replace HV := Lib.hid (HV.out.mv hb); replace HV' := Lib.hid (HV'.out.mv hb); replace HBW := Lib.hid (below_mv HBW.out hb)
    clear hb hr1 hr2 hk1 hk2 hsw
    have r0 := HB2.out.cell 0 rfl; have r1 := HB2.out.cell 1 rfl; have r2 := HB2.out.cell 2 rfl; have r3 := HB2.out.cell 3 rfl; have r4 := HB2.out.cell 4 rfl
    have s0 := HB3.out.cell 0 rfl; have s1 := HB3.out.cell 1 rfl; have s2 := HB3.out.cell 2 rfl; have s3 := HB3.out.cell 3 rfl; have s4 := HB3.out.cell 4 rfl
    have f0 := HB2.out.frozen 0; have f1 := HB2.out.frozen 1; have f2 := HB2.out.frozen 2; have f3 := HB2.out.frozen 3; have f4 := HB2.out.frozen 4
    have g0 := HB3.out.frozen 0; have g1 := HB3.out.frozen 1; have g2 := HB3.out.frozen 2; have g3 := HB3.out.frozen 3; have g4 := HB3.out.frozen 4
    have x4 := HB0.out.cell 4 rfl; have y4 := HB1.out.cell 4 rfl
    have l0 := HB0.out.lt; have l1 := HB1.out.lt; have l2 := HB2.out.lt; have l3 := HB3.out.lt
    cases bl with
    | false =>
      have HE : Hid (passN p q = none) := Lib.hid (by
        unfold passN
        rw [if_neg HNM.out]
        have h := HBL.out
        cases hp : passF p.l q.l with
        | none => rfl
        | some z => rw [hp] at h; cases h)
      go_wp2_with fail
      have hT := two5 HB2.out HB3.out HBW.out (show w.heap.size ≤ z + 1 + 1 by have := HZ.out; omega) (.int .i64 0) (.int .i64 0) (.slice none 0 0) (.string ⟨#[]⟩) (.slice none 0 0) (.int .i64 0) (.int .i64 0) (.slice none 0 0) (.string ⟨#[]⟩) (.slice none 0 0)
      clear r0 r1 r2 r3 r4 s0 s1 s2 s3 s4 f0 f1 f2 f3 f4 g0 g1 g2 g3 g4 x4 y4 l0 l1 l2 l3
      generalize (World.setCell (World.setCell (World.setCell (World.setCell (World.setCell (World.setCell (World.setCell (World.setCell (World.setCell (World.setCell w3 ⟨z + 1 + 1, 0, none⟩ (.int .i64 0)) ⟨z + 1 + 1, 1, none⟩ (.int .i64 0)) ⟨z + 1 + 1, 2, none⟩ (.slice none 0 0)) ⟨z + 1 + 1, 3, none⟩ (.string ⟨#[]⟩)) ⟨z + 1 + 1, 4, none⟩ (.slice none 0 0)) ⟨z + 1 + 1 + 1, 0, none⟩ (.int .i64 0)) ⟨z + 1 + 1 + 1, 1, none⟩ (.int .i64 0)) ⟨z + 1 + 1 + 1, 2, none⟩ (.slice none 0 0)) ⟨z + 1 + 1 + 1, 3, none⟩ (.string ⟨#[]⟩)) ⟨z + 1 + 1 + 1, 4, none⟩ (.slice none 0 0)) = w9 at *
      obtain ⟨t1, t2, t3, t4, t5⟩ := hT
      have u0 := t1.cell 0 rfl; have u1 := t1.cell 1 rfl; have u2 := t1.cell 2 rfl; have u3 := t1.cell 3 rfl; have u4 := t1.cell 4 rfl
      have v0 := t2.cell 0 rfl; have v1 := t2.cell 1 rfl; have v2 := t2.cell 2 rfl; have v3 := t2.cell 3 rfl; have v4 := t2.cell 4 rfl
      refine bodyPost_ret (v := .tuple #[.agg #[.int .i64 0, .int .i64 0, .slice none 0 0, .string ⟨#[]⟩, .slice none 0 0], .agg #[.int .i64 0, .int .i64 0, .slice none 0 0, .string ⟨#[]⟩, .slice none 0 0], .bool false]) (by simp [results, Try.results10, go_sem, u0, u1, u2, u3, u4, v0, v1, v2, v3, v4]) rfl ?_
      exact npass_none HE.out HO.out HS.out t3
    | true =>
      have HE : Hid (passN p q = some (⟨q.id, q.deps, q.txt, lx⟩, ⟨p.id, p.deps, p.txt, ly⟩)) := Lib.hid (by
        unfold passN
        rw [if_neg HNM.out, outF_of HOL.out HBL.out]
        rfl)
      have x0 := HB0.out.cell 0 rfl; have x1 := HB0.out.cell 1 rfl; have x2 := HB0.out.cell 2 rfl; have x3 := HB0.out.cell 3 rfl
      have y0 := HB1.out.cell 0 rfl; have y1 := HB1.out.cell 1 rfl; have y2 := HB1.out.cell 2 rfl; have y3 := HB1.out.cell 3 rfl
      go_upto_region 7 with fail
      have HSB : Hid (∀ X : World, Blk X z 28 #[.int .i64 p.id.1, .int .i64 p.id.2, .slice D dn dc, strV p.txt, .slice A n c] → Blk X (z + 1) 28 #[.int .i64 q.id.1, .int .i64 q.id.2, .slice D' dn' dc', strV q.txt, .slice A' n' c'] → X.cell? ⟨z, 0, none⟩ = some (.int .i64 p.id.1) ∧ X.cell? ⟨z, 1, none⟩ = some (.int .i64 p.id.2) ∧ X.cell? ⟨z, 2, none⟩ = some (.slice D dn dc) ∧ X.cell? ⟨z, 3, none⟩ = some (strV p.txt) ∧ X.cell? ⟨z, 4, none⟩ = some (.slice A n c) ∧ X.cell? ⟨z + 1, 0, none⟩ = some (.int .i64 q.id.1) ∧ X.cell? ⟨z + 1, 1, none⟩ = some (.int .i64 q.id.2) ∧ X.cell? ⟨z + 1, 2, none⟩ = some (.slice D' dn' dc') ∧ X.cell? ⟨z + 1, 3, none⟩ = some (strV q.txt) ∧ X.cell? ⟨z + 1, 4, none⟩ = some (.slice A' n' c')) := Lib.hid (fun X h1 h2 => ⟨h1.cell 0 rfl, h1.cell 1 rfl, h1.cell 2 rfl, h1.cell 3 rfl, h1.cell 4 rfl, h2.cell 0 rfl, h2.cell 1 rfl, h2.cell 2 rfl, h2.cell 3 rfl, h2.cell 4 rfl⟩)
      have HC : Hid (∀ X, Below w3.heap.size w3 X → X.cell? ⟨z, 0, none⟩ = some (.int .i64 p.id.1) ∧ X.cell? ⟨z, 1, none⟩ = some (.int .i64 p.id.2) ∧ X.cell? ⟨z, 2, none⟩ = some (.slice D dn dc) ∧ X.cell? ⟨z, 3, none⟩ = some (strV p.txt) ∧ X.cell? ⟨z, 4, none⟩ = some (.slice A n c) ∧ X.cell? ⟨z + 1, 0, none⟩ = some (.int .i64 q.id.1) ∧ X.cell? ⟨z + 1, 1, none⟩ = some (.int .i64 q.id.2) ∧ X.cell? ⟨z + 1, 2, none⟩ = some (.slice D' dn' dc') ∧ X.cell? ⟨z + 1, 3, none⟩ = some (strV q.txt) ∧ X.cell? ⟨z + 1, 4, none⟩ = some (.slice A' n' c')) := Lib.hid (fun X hb => HSB.out X (HB0.out.below hb HB0.out.lt) (HB1.out.below hb HB1.out.lt))
      have HD := Lib.hid (show Below w3.heap.size w3 w3.drew from below_drewN (Below.refl _ _) 1)
      have HKD := Lib.hid (HC.out w3.drew HD.out)
      have PX : Hid (∀ X, Below w3.heap.size w3 X → Calls Try.prog 24 #[nmV q.id D' dn' dc' q.txt A' n' c', .slice E1 lx.length k1] X (WithEnd X q dn' E1 lx.length k1)) := Lib.hid (fun X hb => With D' dn' dc' A' n' c' q E1 lx.length k1 X hd' HV'.out.dl (RdI.mv HV'.out.dr hb))
      have PY : Hid (∀ X, Below w3.heap.size w3 X → Calls Try.prog 24 #[nmV p.id D dn dc p.txt A n c, .slice E2 ly.length k2] X (WithEnd X p dn E2 ly.length k2)) := Lib.hid (fun X hb => With D dn dc A n c p E2 ly.length k2 X hd HV.out.dl (RdI.mv HV.out.dr hb))
      go_region_held3 (fun X => X.cell? ⟨z, 0, none⟩ = some (.int .i64 p.id.1) ∧ X.cell? ⟨z, 1, none⟩ = some (.int .i64 p.id.2) ∧ X.cell? ⟨z, 2, none⟩ = some (.slice D dn dc) ∧ X.cell? ⟨z, 3, none⟩ = some (strV p.txt) ∧ X.cell? ⟨z, 4, none⟩ = some (.slice A n c) ∧ X.cell? ⟨z + 1, 0, none⟩ = some (.int .i64 q.id.1) ∧ X.cell? ⟨z + 1, 1, none⟩ = some (.int .i64 q.id.2) ∧ X.cell? ⟨z + 1, 2, none⟩ = some (.slice D' dn' dc') ∧ X.cell? ⟨z + 1, 3, none⟩ = some (strV q.txt) ∧ X.cell? ⟨z + 1, 4, none⟩ = some (.slice A' n' c'))
        (first | (with_reducible exact HKD.out) | (with_reducible exact hS5) | (with_reducible exact hS6) | (with_reducible exact HKA.out) | (with_reducible exact HKB.out))
        (first
          | (go_at_call 24; (with_reducible refine (PX.out w3.drew HD.out).mono ?_); rintro e w5 ⟨D5, c5, rfl, hk5, hr5, hb5⟩; have hbu := HD.out.trans (hb5.mono HD.out.size); have hS5 := HC.out w5 hbu; have HU5 := Lib.hid hbu; have HR5 := Lib.hid hr5; have HK5 := Lib.hid hk5; clear hb5 hbu hr5 hk5)
          | (go_at_call 24; (with_reducible refine (PY.out w5 HU5.out).mono ?_); rintro e w6 ⟨D6, c6, rfl, hk6, hr6, hb6⟩; have hbu := HU5.out.trans (hb6.mono HU5.out.size); have hS6 := HC.out w6 hbu; have HU6 := Lib.hid hbu; have HB6 := Lib.hid hb6; have HR6 := Lib.hid hr6; have HK6 := Lib.hid hk6;
              have B0 := HB0.out.below hbu HB0.out.lt; have B1 := HB1.out.below hbu HB1.out.lt; have B2 := HB2.out.below hbu HB2.out.lt; have B3 := HB3.out.below hbu HB3.out.lt;
              have HKA := Lib.hid (HSB.out _ (blk_set5 B0 (show z ≠ z + 1 + 1 by omega) (.int .i64 q.id.1) (.int .i64 q.id.2) (.slice D5 dn' c5) (strV q.txt) (.slice E1 lx.length k1)) (blk_set5 B1 (show z + 1 ≠ z + 1 + 1 by omega) (.int .i64 q.id.1) (.int .i64 q.id.2) (.slice D5 dn' c5) (strV q.txt) (.slice E1 lx.length k1)));
              have HKB := Lib.hid (HSB.out _ (blk_set5 (blk_set5 B0 (show z ≠ z + 1 + 1 by omega) (.int .i64 q.id.1) (.int .i64 q.id.2) (.slice D5 dn' c5) (strV q.txt) (.slice E1 lx.length k1)) (show z ≠ z + 1 + 1 + 1 by omega) (.int .i64 p.id.1) (.int .i64 p.id.2) (.slice D6 dn c6) (strV p.txt) (.slice E2 ly.length k2)) (blk_set5 (blk_set5 B1 (show z + 1 ≠ z + 1 + 1 by omega) (.int .i64 q.id.1) (.int .i64 q.id.2) (.slice D5 dn' c5) (strV q.txt) (.slice E1 lx.length k1)) (show z + 1 ≠ z + 1 + 1 + 1 by omega) (.int .i64 p.id.1) (.int .i64 p.id.2) (.slice D6 dn c6) (strV p.txt) (.slice E2 ly.length k2)));
              have HB2' := Lib.hid B2; have HB3' := Lib.hid B3;
              have r0 := B2.cell 0 rfl; have r1 := B2.cell 1 rfl; have r2 := B2.cell 2 rfl; have r3 := B2.cell 3 rfl; have r4 := B2.cell 4 rfl;
              have s0 := B3.cell 0 rfl; have s1 := B3.cell 1 rfl; have s2 := B3.cell 2 rfl; have s3 := B3.cell 3 rfl; have s4 := B3.cell 4 rfl;
              have f0 := B2.frozen 0; have f1 := B2.frozen 1; have f2 := B2.frozen 2; have f3 := B2.frozen 3; have f4 := B2.frozen 4;
              have g0 := B3.frozen 0; have g1 := B3.frozen 1; have g2 := B3.frozen 2; have g3 := B3.frozen 3; have g4 := B3.frozen 4;
              have l2 := B2.lt; have l3 := B3.lt; clear hb6 hbu hr6 hk6 B0 B1 B2 B3))
      have hsz : w.heap.size = z := HZ.out
      have hz3 : z + 4 ≤ w3.heap.size := by have := HB3.out.lt; omega
      have h56 : w5.heap.size ≤ w6.heap.size := HB6.out.size
      have h35 : w3.heap.size ≤ w5.heap.size := HU5.out.size
      have hT := two5 HB2'.out HB3'.out (below_mv HBW.out HU6.out) (show w.heap.size ≤ z + 1 + 1 by omega) (.int .i64 q.id.1) (.int .i64 q.id.2) (.slice D5 dn' c5) (strV q.txt) (.slice E1 lx.length k1) (.int .i64 p.id.1) (.int .i64 p.id.2) (.slice D6 dn c6) (strV p.txt) (.slice E2 ly.length k2)
      clear r0 r1 r2 r3 r4 s0 s1 s2 s3 s4 f0 f1 f2 f3 f4 g0 g1 g2 g3 g4 x4 y4 l0 l1 l2 l3 x0 x1 x2 x3 y0 y1 y2 y3 hS5 hS6 HKA HKB HSB HC HKD PX PY
      go_wp2_with fail
      generalize (World.setCell (World.setCell (World.setCell (World.setCell (World.setCell (World.setCell (World.setCell (World.setCell (World.setCell (World.setCell w6 ⟨z + 1 + 1, 0, none⟩ (.int .i64 q.id.1)) ⟨z + 1 + 1, 1, none⟩ (.int .i64 q.id.2)) ⟨z + 1 + 1, 2, none⟩ (.slice D5 dn' c5)) ⟨z + 1 + 1, 3, none⟩ (strV q.txt)) ⟨z + 1 + 1, 4, none⟩ (.slice E1 lx.length k1)) ⟨z + 1 + 1 + 1, 0, none⟩ (.int .i64 p.id.1)) ⟨z + 1 + 1 + 1, 1, none⟩ (.int .i64 p.id.2)) ⟨z + 1 + 1 + 1, 2, none⟩ (.slice D6 dn c6)) ⟨z + 1 + 1 + 1, 3, none⟩ (strV p.txt)) ⟨z + 1 + 1 + 1, 4, none⟩ (.slice E2 ly.length k2)) = w9 at *
      obtain ⟨t1, t2, t3, t4, t5⟩ := hT
      have u0 := t1.cell 0 rfl; have u1 := t1.cell 1 rfl; have u2 := t1.cell 2 rfl; have u3 := t1.cell 3 rfl; have u4 := t1.cell 4 rfl
      have v0 := t2.cell 0 rfl; have v1 := t2.cell 1 rfl; have v2 := t2.cell 2 rfl; have v3 := t2.cell 3 rfl; have v4 := t2.cell 4 rfl
      have hv := HV.out; have hv' := HV'.out
      obtain ⟨k4, k5⟩ := passL_len passP (outF_of HOL.out HBL.out)
      have hv0 := HV.out.l; have hv1 := HV'.out.l
      have key : ∀ b, (z + 4 ≤ b ∧ b < w6.heap.size) → b ≠ z + 1 + 1 ∧ b ≠ z + 1 + 1 + 1 := fun b hb => by omega
      have up : ∀ b, (z + 4 ≤ b ∧ b < w6.heap.size) → Since w w9 b := fun b hb => ⟨by omega, by omega⟩
      have a3 : Below w3.heap.size w3 w6 := HU6.out
      have l1 := (((HR1.out.to ((alike_below a3).mono fun b hb => hb.2)).mono fun b hb => (⟨hb.1, by have := hb.2; omega⟩ : z + 4 ≤ b ∧ b < w6.heap.size)).to (t5.mono key)).mono up
      have l2 := (((HR2.out.to ((alike_below a3).mono fun b hb => hb.2)).mono fun b hb => (⟨hb.1, by have := hb.2; omega⟩ : z + 4 ≤ b ∧ b < w6.heap.size)).to (t5.mono key)).mono up
      have hd1 : w3.drew.heap.size = w3.heap.size := rfl
      have d5 := (((HR5.out.to ((alike_below HB6.out).mono fun b hb => hb.2)).mono fun b hb => (⟨by have := hb.1; omega, by have := hb.2; omega⟩ : z + 4 ≤ b ∧ b < w6.heap.size)).to (t5.mono key)).mono up
      have d6 := ((HR6.out.mono fun b hb => (⟨by have := hb.1; omega, hb.2⟩ : z + 4 ≤ b ∧ b < w6.heap.size)).to (t5.mono key)).mono up
      refine bodyPost_ret (v := .tuple #[.agg #[.int .i64 q.id.1, .int .i64 q.id.2, .slice D5 dn' c5, strV q.txt, .slice E1 lx.length k1], .agg #[.int .i64 p.id.1, .int .i64 p.id.2, .slice D6 dn c6, strV p.txt, .slice E2 ly.length k2], .bool true]) (by simp [results, Try.results10, go_sem, u0, u1, u2, u3, u4, v0, v1, v2, v3, v4]) rfl ?_
      have ho := HO.out
      have hs := HS.out
      rw [HE.out] at ho hs
      injection ho with e1 e2
      subst e1 e2 hs
      refine ⟨D5, dn', c5, E1, lx.length, k1, D6, dn, c6, E2, ly.length, k2, rfl, ⟨hv'.dl, HK5.out, hv'.dm, d5, hv'.tm, rfl, HK1.out, by unfold maxLen; omega, l1⟩, ⟨hv.dl, HK6.out, hv.dm, d6, hv.tm, rfl, HK2.out, by unfold maxLen; omega, l2⟩, t3⟩

end Tg
end Go.Proofs.Ytbiiabfhngdeiaa
