/-
  What package trade's with returns (walk): a patch with other changes; its Deps are a copy.
-/
import Derived.Test.YtbiiabfhngdeiaaTgMem
import Derived.Test.YtbiiabfhngdeiaaPnLeaf
import Derived.Deep.RegionWith
import Derived.Deep.RegionLaw
set_option maxRecDepth 100000
namespace Go.Proofs.Ytbiiabfhngdeiaa
open Go.RowKit
set_option linter.unusedVariables false
set_option linter.unusedSimpArgs false
namespace Tg
open Tx Df Sq Hk Tr Pr Fl Pn

/-- A row of ids of one's own that is new is read as ids. -/
theorem rdI_own_hi {W : World} {base : Nat} {v : Value} {l : List Id_} (h : OwnI W base v l) : ∃ A c, v = .slice A l.length c ∧ l.length ≤ c ∧ RdG W (fun b => base ≤ b ∧ b < W.heap.size) A (idsV l) := by
  obtain ⟨A, c, rfl, hc, hr⟩ := rdI_own h
  refine ⟨A, c, rfl, hc, ?_⟩
  rcases hr with h0 | ⟨a, rfl, hlt, hcell⟩
  · exact .inl h0
  · rcases h.2 with ⟨e, _⟩ | ⟨g, cap, cur, e, hbg, _⟩
    · injection e with e; cases e
    · injection e with e
      injection e with e
      subst e
      exact .inr ⟨_, rfl, ⟨hbg, hlt⟩, hcell⟩

/-- How with ends. -/
def WithEnd (w : World) (p : Nm) (dn : Nat) (A : Option Addr) (n c : Nat) (e : Ending) (w' : World) : Prop :=
  ∃ D dc, e = .returned (nmV p.id D dn dc p.txt A n c) ∧ dn ≤ dc ∧ RdG w' (Since w w') D (idsV p.deps) ∧ Below w.heap.size w w'

set_option maxHeartbeats 1000000 in
theorem With (D : Option Addr) (dn dc : Nat) (A : Option Addr) (n c : Nat) (p : Nm) (A' : Option Addr) (n' c' : Nat) (w : World) (hd : dn ≤ 100000) (hdl : p.deps.length = dn) (hr : RdI w w.heap.size D p.deps) :
    Calls Try.prog 24 #[nmV p.id D dn dc p.txt A n c, .slice A' n' c'] w (WithEnd w p dn A' n' c') := by
  have HR := Lib.hid hr; have HN := Lib.hid hdl
  clear hr hdl
  have b0 := (Blk.new w 58 #[.int .i64 p.id.1, .int .i64 p.id.2, .slice D dn dc, strV p.txt, .slice A n c]).alloc (.cells #[.int .i64 0, .int .i64 0, .slice none 0 0, .string ⟨#[]⟩, .slice none 0 0] 28)
  have b1 := Blk.new (w.alloc (.cells #[.int .i64 p.id.1, .int .i64 p.id.2, .slice D dn dc, strV p.txt, .slice A n c] 58)) 28 #[.int .i64 0, .int .i64 0, .slice none 0 0, .string ⟨#[]⟩, .slice none 0 0]
  have hba := two_box w (.cells #[.int .i64 p.id.1, .int .i64 p.id.2, .slice D dn dc, strV p.txt, .slice A n c] 58) (.cells #[.int .i64 0, .int .i64 0, .slice none 0 0, .string ⟨#[]⟩, .slice none 0 0] 28)
  simp only [World.size_alloc] at b1
  go_enter Try.func24, Try.ntmps24
  go_upto_region 1 with fail
  generalize ((w.alloc (.cells #[.int .i64 p.id.1, .int .i64 p.id.2, .slice D dn dc, strV p.txt, .slice A n c] 58)).alloc (.cells #[.int .i64 0, .int .i64 0, .slice none 0 0, .string ⟨#[]⟩, .slice none 0 0] 28)) = w1 at b0 b1 hba ⊢
  obtain ⟨z, hz⟩ : ∃ z, w.heap.size = z := ⟨_, rfl⟩
  have HR1 := Lib.hid (RdI.mv HR.out hba)
  rw [hz] at b0 b1 ⊢
  have HB0 := Lib.hid b0; have HB1 := Lib.hid b1; have HBA := Lib.hid hba; have HZ := Lib.hid hz
  have x2 := b0.cell 2 rfl; have x4 := b0.cell 4 rfl
  clear b0 b1 hba hz HR
  go_upto_region 2 with (at_builtin; refine wpList_ownI rfl (.const (.slice none 0 0)) (.tmp 6) rfl w1.heap.size dn dc (.slice none 0 0) D [] p.deps rfl rfl (ownI_nil _ _) HR1.out HN.out (by simp; omega) (Nat.le_refl _) ?_; intro v w2 ho hg; have HO := Lib.hid (show OwnI w2 w1.heap.size v p.deps from ho); have hb2 : Below w1.heap.size w1 w2 := (Below.refl _ _).grown hg (Nat.le_refl _) (fun k e => by cases e); have b02 := HB0.out.below hb2 HB0.out.lt; have b12 := HB1.out.below hb2 HB1.out.lt; have HB2 := Lib.hid hb2; have HB02 := Lib.hid b02; have HB12 := Lib.hid b12; obtain ⟨A2, c2, hv, hc2, hr2⟩ := rdI_own_hi HO.out; rw [HN.out] at hv hc2; subst hv; have HR2 := Lib.hid hr2; clear ho hg hb2 hr2 x2 x4; have x0 := b02.cell 0 rfl; have x1 := b02.cell 1 rfl; have x2 := b02.cell 2 rfl; have x3 := b02.cell 3 rfl; have x4 := b02.cell 4 rfl; have f2 := b02.frozen 2; have f4 := b02.frozen 4; have l0 := b02.lt; clear b02 b12)
  have b03 : Blk ((w2.setCell ⟨z, 2, none⟩ (.slice A2 dn c2)).setCell ⟨z, 4, none⟩ (.slice A' n' c')) z 58 #[.int .i64 p.id.1, .int .i64 p.id.2, .slice A2 dn c2, strV p.txt, .slice A' n' c'] := (HB02.out.set 2 _).set 4 _
  have b13 : Blk ((w2.setCell ⟨z, 2, none⟩ (.slice A2 dn c2)).setCell ⟨z, 4, none⟩ (.slice A' n' c')) (z + 1) 28 #[.int .i64 0, .int .i64 0, .slice none 0 0, .string ⟨#[]⟩, .slice none 0 0] := (HB12.out.set_ne (by omega) 2 _).set_ne (by omega) 4 _
  have hb3 : Below w.heap.size w ((w2.setCell ⟨z, 2, none⟩ (.slice A2 dn c2)).setCell ⟨z, 4, none⟩ (.slice A' n' c')) := ((below_mv HBA.out HB2.out).setCell (p := ⟨z, 2, none⟩) (Nat.le_of_eq HZ.out) _).setCell (p := ⟨z, 4, none⟩) (Nat.le_of_eq HZ.out) _
  have hz1 : z + 1 < w1.heap.size := HB1.out.lt
  have hzw := HZ.out
  have hr3 : RdG ((w2.setCell ⟨z, 2, none⟩ (.slice A2 dn c2)).setCell ⟨z, 4, none⟩ (.slice A' n' c')) (fun b => z + 2 ≤ b ∧ b < w2.heap.size) A2 (idsV p.deps) := (HR2.out.mono fun b hb => ⟨by have := hb.1; omega, hb.2⟩).to (((alike_set w2 z 2 (.slice A2 dn c2)).trans_ (alike_set _ z 4 (.slice A' n' c')) (by simp)).mono fun b hb => by omega)
  have hs3 : ((w2.setCell ⟨z, 2, none⟩ (.slice A2 dn c2)).setCell ⟨z, 4, none⟩ (.slice A' n' c')).heap.size = w2.heap.size := by simp
  clear x0 x1 x2 x3 x4 f2 f4 l0
  generalize ((w2.setCell ⟨z, 2, none⟩ (.slice A2 dn c2)).setCell ⟨z, 4, none⟩ (.slice A' n' c')) = w3 at b03 b13 hb3 hr3 hs3 ⊢
  have x0 := b03.cell 0 rfl; have x1 := b03.cell 1 rfl; have x2 := b03.cell 2 rfl; have x3 := b03.cell 3 rfl; have x4 := b03.cell 4 rfl
  have y0 := b13.cell 0 rfl; have y1 := b13.cell 1 rfl; have y2 := b13.cell 2 rfl; have y3 := b13.cell 3 rfl; have y4 := b13.cell 4 rfl
  have g0 := b13.frozen 0; have g1 := b13.frozen 1; have g2 := b13.frozen 2; have g3 := b13.frozen 3; have g4 := b13.frozen 4
  have hl0 := b03.lt; have hl1 := b13.lt
  have b14 := blk5 b13 (.int .i64 p.id.1) (.int .i64 p.id.2) (.slice A2 dn c2) (strV p.txt) (.slice A' n' c')
  have hb4 := below_set5 hb3 (show w.heap.size ≤ z + 1 by omega) (.int .i64 p.id.1) (.int .i64 p.id.2) (.slice A2 dn c2) (strV p.txt) (.slice A' n' c')
  have hr4 := hr3.to ((alike_set5 w3 (z + 1) (.int .i64 p.id.1) (.int .i64 p.id.2) (.slice A2 dn c2) (strV p.txt) (.slice A' n' c')).mono fun b hb => by omega)
  have hs4 : (World.setCell (World.setCell (World.setCell (World.setCell (World.setCell w3 ⟨z + 1, 0, none⟩ (.int .i64 p.id.1)) ⟨z + 1, 1, none⟩ (.int .i64 p.id.2)) ⟨z + 1, 2, none⟩ (.slice A2 dn c2)) ⟨z + 1, 3, none⟩ (strV p.txt)) ⟨z + 1, 4, none⟩ (.slice A' n' c')).heap.size = w3.heap.size := by simp
  have HB4 := Lib.hid hb4; have HR4 := Lib.hid hr4; have HS4 := Lib.hid (hs4.trans hs3); have B14 := Lib.hid b14; have HC2 := Lib.hid hc2
  clear b03 b13 hb3 hr3 hs3 hb4 hr4 hs4 b14 hz1 hzw hc2 HB2 HB02 HB12 HR2 HO HB0 HB1 HBA HR1
  go_wp2_with fail
  generalize (World.setCell (World.setCell (World.setCell (World.setCell (World.setCell w3 ⟨z + 1, 0, none⟩ (.int .i64 p.id.1)) ⟨z + 1, 1, none⟩ (.int .i64 p.id.2)) ⟨z + 1, 2, none⟩ (.slice A2 dn c2)) ⟨z + 1, 3, none⟩ (strV p.txt)) ⟨z + 1, 4, none⟩ (.slice A' n' c')) = w4 at *
  have u0 := B14.out.cell 0 rfl; have u1 := B14.out.cell 1 rfl; have u2 := B14.out.cell 2 rfl; have u3 := B14.out.cell 3 rfl; have u4 := B14.out.cell 4 rfl
  refine bodyPost_ret (v := .agg #[.int .i64 p.id.1, .int .i64 p.id.2, .slice A2 dn c2, strV p.txt, .slice A' n' c']) (by simp [results, Try.results24, go_sem, u0, u1, u2, u3, u4]) rfl ?_
  exact ⟨A2, c2, rfl, HC2.out, HR4.out.mono fun b hb => ⟨by have := HZ.out; omega, by have := HS4.out; omega⟩, HB4.out⟩

end Tg
end Go.Proofs.Ytbiiabfhngdeiaa
