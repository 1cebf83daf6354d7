/-
  What Turn of layer 5 returns (walk): the hunk turned, its lines in memory of its own.
-/
import Derived.Test.YtfjllohhjpiphaaHkLeaf
import Derived.Test.YtfjllohhjpiphaaGQ
import Derived.Deep.RegionHeld3
set_option maxRecDepth 100000
namespace Go.Proofs.Ytfjllohhjpiphaa
open Go.RowKit
set_option linter.unusedVariables false
namespace Hk
open Tx Df

/-- How Turn ends. -/
def TurnEnd (w : World) (n n' : Nat) (h : HU) (e : Ending) (w' : World) : Prop :=
  ∃ D k D' k', e = .returned (hkV h.pos D n' k D' n k') ∧ HV w' w'.heap.size D n' k D' n k' (turn h) ∧ Below w.heap.size w w'

/-- How Turn ends: its lines lie in rows of its own. -/
def TurnOEnd (w : World) (n n' : Nat) (h : HU) (e : Ending) (w' : World) : Prop :=
  ∃ D k D' k', e = .returned (hkV h.pos D n' k D' n k') ∧ w'.ownsRow w.heap.size 9 1 (.slice D n' k) n' (h.new.map strV) ∧ w'.ownsRow w.heap.size 9 1 (.slice D' n k') n (h.old.map strV) ∧ Below w.heap.size w w'

set_option maxRecDepth 100000 in
set_option maxHeartbeats 2000000 in
theorem TurnO (A : Option Addr) (n c : Nat) (A' : Option Addr) (n' c' B : Nat) (h : HU) (w : World) (hB : B ≤ w.heap.size) (hn : n ≤ 1000) (hn' : n' ≤ 1000) (hv : HV w B A n c A' n' c' h) :
    Calls Try.prog 41 #[hkV h.pos A n c A' n' c'] w (TurnOEnd w n n' h) := by
  have HV0 := Lib.hid hv
  have HL := Lib.hid hv.l; have HL' := Lib.hid hv.l'
  have R := Lib.hid hv.r; have R' := Lib.hid hv.r'
  clear hv
  obtain ⟨p, hp⟩ : ∃ p, h.pos = p := ⟨_, rfl⟩
  rw [hp]
  have HP := Lib.hid hp; clear hp
  go_enter Try.func41, Try.ntmps41
  go_wp2_with fail
  have b1 := (Blk.new w 24 #[.int .i64 p, .slice A n c, .slice A' n' c']).alloc (.cells #[.int .i64 0, .slice none 0 0, .slice none 0 0] 24)
  have b2 := Blk.new (w.alloc (.cells #[.int .i64 p, .slice A n c, .slice A' n' c'] 24)) 24 #[.int .i64 0, .slice none 0 0, .slice none 0 0]
  have hw : Below w.heap.size w ((w.alloc (.cells #[.int .i64 p, .slice A n c, .slice A' n' c'] 24)).alloc (.cells #[.int .i64 0, .slice none 0 0, .slice none 0 0] 24)) := ((Below.refl _ _).alloc (Nat.le_refl _) _).alloc (by simp) _
  simp only [World.size_alloc] at b2
  generalize hW : (w.alloc (.cells #[.int .i64 p, .slice A n c, .slice A' n' c'] 24)).alloc (.cells #[.int .i64 0, .slice none 0 0, .slice none 0 0] 24) = W at *
  clear hW
  have R1 := Lib.hid (Rd.below R.out (hw.mono hB))
  have R1' := Lib.hid (Rd.below R'.out (hw.mono hB))
  have B1 := Lib.hid b1; have B2 := Lib.hid b2; have HW := Lib.hid hw; clear b1 b2 hw
  have HBW : Hid (B ≤ W.heap.size) := Lib.hid (Nat.le_trans hB HW.out.size)
  obtain ⟨g, hgs⟩ : ∃ g, w.heap.size = g := ⟨_, rfl⟩
  rw [hgs] at HW B1 B2 hB ⊢
  have HGS := Lib.hid hgs; clear hgs
  have x0 : W.cell? ⟨g, 0, none⟩ = some (.int .i64 p) := B1.out.cell 0 rfl
  have x1 : W.cell? ⟨g, 1, none⟩ = some (.slice A n c) := B1.out.cell 1 rfl
  have x2 : W.cell? ⟨g, 2, none⟩ = some (.slice A' n' c') := B1.out.cell 2 rfl
  go_region_held3 (fun w' => w'.cell? ⟨g, 0, none⟩ = some (.int .i64 p) ∧ w'.cell? ⟨g, 1, none⟩ = some (.slice A n c) ∧ w'.cell? ⟨g, 2, none⟩ = some (.slice A' n' c'))
    (first | go_keep | (exact ⟨y0, y1, y2⟩) | (exact ⟨z0, z1, z2⟩))
    (first
      | (go_at_call 63; refine (own A' c' n' B h.new W.drew HL'.out (by omega) (Rd.drewN R1'.out 1)).mono ?_; rintro e w1 ⟨D, k, rfl, hr1, hg1⟩;
          have y0 := cell_gr hg1 (nn _) x0; have y1 := cell_gr hg1 (nn _) x1; have y2 := cell_gr hg1 (nn _) x2; have HR1 := Lib.hid hr1; have HG1 := Lib.hid hg1; clear hr1 hg1)
      | (go_at_call 63; refine (own A c n B h.old w1 HL.out (by omega) (Rd.below (Rd.drewN R1.out 1) ((below_gr HG1.out).mono HBW.out))).mono ?_; rintro e w2 ⟨D', k', rfl, hr2, hg2⟩;
          have z0 := cell_gr hg2 (nn _) y0; have z1 := cell_gr hg2 (nn _) y1; have z2 := cell_gr hg2 (nn _) y2;
          have b3 := ((B2.out.drewN 1).gr HG1.out (nn _)).gr hg2 (nn _); have q0 : w2.cell? ⟨g + 1, 0, none⟩ = some (.int .i64 0) := b3.cell 0 rfl; have q1 : w2.cell? ⟨g + 1, 1, none⟩ = some (.slice none 0 0) := b3.cell 1 rfl; have q2 : w2.cell? ⟨g + 1, 2, none⟩ = some (.slice none 0 0) := b3.cell 2 rfl; have f0 := b3.frozen 0; have f1 := b3.frozen 1; have f2 := b3.frozen 2;
          have B3 := Lib.hid b3; clear b3; have HR2 := Lib.hid hr2; have HG2 := Lib.hid hg2; clear hr2 hg2))
  go_wp2_with fail
  have b4 := ((B3.out.set 0 (.int .i64 p)).set 1 (.slice D n' k)).set 2 (.slice D' n k')
  have hg1 : g + 1 < W.heap.size := B2.out.lt
  have hs1 : W.heap.size ≤ w1.heap.size := HG1.out.size
  have o1 := own_set (own_set (own_set (own_gr HR1.out HG2.out) hg1 0 (.int .i64 p)) hg1 1 (.slice D n' k)) hg1 2 (.slice D' n k')
  have o2 := own_set (own_set (own_set HR2.out (Nat.lt_of_lt_of_le hg1 hs1) 0 (.int .i64 p)) (Nat.lt_of_lt_of_le hg1 hs1) 1 (.slice D n' k)) (Nat.lt_of_lt_of_le hg1 hs1) 2 (.slice D' n k')
  have hB3 : Below g w (((w2.setCell ⟨g + 1, 0, none⟩ (.int .i64 p)).setCell ⟨g + 1, 1, none⟩ (.slice D n' k)).setCell ⟨g + 1, 2, none⟩ (.slice D' n k')) := (((HW.out.trans (((below_drewN (Below.refl W.heap.size W) 1).trans (below_gr HG1.out)).mono (Nat.le_trans (by omega) hg1)) |>.trans ((below_gr HG2.out).mono (by omega))).setCell (p := ⟨g + 1, 0, none⟩) (by show g ≤ g + 1; omega) _).setCell (p := ⟨g + 1, 1, none⟩) (by show g ≤ g + 1; omega) _).setCell (p := ⟨g + 1, 2, none⟩) (by show g ≤ g + 1; omega) _
  generalize ((w2.setCell ⟨g + 1, 0, none⟩ (.int .i64 p)).setCell ⟨g + 1, 1, none⟩ (.slice D n' k)).setCell ⟨g + 1, 2, none⟩ (.slice D' n k') = W3 at *
  have q0 : W3.cell? ⟨g + 1, 0, none⟩ = some (.int .i64 p) := b4.cell 0 rfl
  have q1 : W3.cell? ⟨g + 1, 1, none⟩ = some (.slice D n' k) := b4.cell 1 rfl
  have q2 : W3.cell? ⟨g + 1, 2, none⟩ = some (.slice D' n k') := b4.cell 2 rfl
  refine bodyPost_ret (v := hkV p D n' k D' n k') (by simp [results, Try.results41, go_sem, q0, q1, q2]) rfl ?_
  have hwW : w.heap.size ≤ W.heap.size := HW.out.size
  refine ⟨D, k, D', k', by rw [HP.out], own_mono o1 hwW, own_mono o2 (Nat.le_trans hwW hs1), by rw [HGS.out]; exact hB3⟩

theorem Turn (A : Option Addr) (n c : Nat) (A' : Option Addr) (n' c' B : Nat) (h : HU) (w : World) (hB : B ≤ w.heap.size) (hn : n ≤ 1000) (hn' : n' ≤ 1000) (hv : HV w B A n c A' n' c' h) :
    Calls Try.prog 41 #[hkV h.pos A n c A' n' c'] w (TurnEnd w n n' h) := by
  refine (TurnO A n c A' n' c' B h w hB hn hn' hv).mono ?_
  rintro e w' ⟨D, k, D', k', rfl, o1, o2, hb⟩
  obtain ⟨_, _, e1, hk1, r1⟩ := rd_of_own o1
  obtain ⟨_, _, e2, hk2, r2⟩ := rd_of_own o2
  cases e1; cases e2
  exact ⟨D, k, D', k', rfl, ⟨hv.l', hv.l, hk1, hk2, hv.m', hv.m, r1, r2, hv.p⟩, hb⟩

end Hk
end Go.Proofs.Ytfjllohhjpiphaa
