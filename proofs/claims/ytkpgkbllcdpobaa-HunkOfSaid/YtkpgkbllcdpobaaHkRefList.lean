/-
  What the document's own List of layer 5 returns for two lists that are the same (walk).
-/
import Derived.Test.YtkpgkbllcdpobaaHkRef
import Derived.Deep.RegionHeld3
namespace Go.Proofs.Ytkpgkbllcdpobaa
open Go.RowKit
set_option linter.unusedVariables false
namespace Hk
open Tx Df

set_option maxRecDepth 100000 in
set_option maxHeartbeats 4000000 in
theorem refList (A A' : Option Addr) (c c' n B : Nat) (hs : List HU) (w : World) (hn : hs.length = n) (hnm : n ≤ maxLen) (hB : B ≤ w.heap.size) (hR : RdH w B A hs) (hR' : RdH w B A' hs) :
    Calls Try.prog 20 #[.slice A n c, .slice A' n c'] w (TestEnd w true) := by
  unfold maxLen at hnm
  have HN := Lib.hid hn; clear hn
  go_enter Try.func20, Try.ntmps20
  go_wp2_with fail
  go_loopw [5] (fun v5 wr => ∃ k : Nat, k ≤ n ∧ v5 = .int .i64 (k : Int) ∧ Below w.heap.size w wr) (fun v5 _ => n - (intOf v5).toNat)
  case atStart => exact ⟨0, Nat.zero_le _, rfl, Below.refl _ _⟩
  case round =>
    obtain ⟨k, hk, rfl, hb⟩ := hrel
    have HB := Lib.hid hb; clear hb
    by_cases hlt : k < n
    · have hkl : k < hs.length := by rw [HN.out]; exact hlt
      have hr1 := (hR.below (HB.out.mono hB))
      have hr2 := (hR'.below (HB.out.mono hB))
      obtain ⟨pa, rfl, hpa, hat⟩ := hr1.at_ hkl
      obtain ⟨pb, rfl, hpb, hbt⟩ := hr2.at_ hkl
      generalize hs[k] = g at *
      obtain ⟨q0, G1, e1, G2, e2, q1, q2, hv⟩ := hat
      obtain ⟨r0, H1, d1, H2, d2, r1, r2, hu⟩ := hbt
      have hBr : B ≤ wr.heap.size := Nat.le_trans hB HB.out.size
      have HC : Hid (∀ W, Below B wr W → (W.cell? (pa.add (k * 3)) = some (.int .i64 g.pos) ∧ W.cell? ⟨(pa.add (k * 3)).block, (pa.add (k * 3)).off + 1, none⟩ = some (.slice G1 g.old.length e1) ∧ W.cell? ⟨(pa.add (k * 3)).block, (pa.add (k * 3)).off + 2, none⟩ = some (.slice G2 g.new.length e2)) ∧
          W.cell? (pb.add (k * 3)) = some (.int .i64 g.pos) ∧ W.cell? ⟨(pb.add (k * 3)).block, (pb.add (k * 3)).off + 1, none⟩ = some (.slice H1 g.old.length d1) ∧ W.cell? ⟨(pb.add (k * 3)).block, (pb.add (k * 3)).off + 2, none⟩ = some (.slice H2 g.new.length d2)) := Lib.hid (fun W hb => by
        have ha : (pa.add (k * 3)).block < B := by rw [add_block]; exact hpa
        have hb' : (pb.add (k * 3)).block < B := by rw [add_block]; exact hpb
        exact ⟨⟨(hb.cell ha).trans q0, (hb.cell (p := ⟨(pa.add (k * 3)).block, (pa.add (k * 3)).off + 1, none⟩) ha).trans q1, (hb.cell (p := ⟨(pa.add (k * 3)).block, (pa.add (k * 3)).off + 2, none⟩) ha).trans q2⟩,
          (hb.cell hb').trans r0, (hb.cell (p := ⟨(pb.add (k * 3)).block, (pb.add (k * 3)).off + 1, none⟩) hb').trans r1, (hb.cell (p := ⟨(pb.add (k * 3)).block, (pb.add (k * 3)).off + 2, none⟩) hb').trans r2⟩)
      have HS : Hid (Calls Try.prog 14 #[hkV g.pos G1 g.old.length e1 G2 g.new.length e2, hkV g.pos H1 g.old.length d1 H2 g.new.length d2] wr.drew (TestEnd wr.drew true)) := Lib.hid (by
        have := refSameH G1 g.old.length e1 G2 g.new.length e2 H1 g.old.length d1 H2 g.new.length d2 B g g wr.drew hBr (hv.drewN 1) (hu.drewN 1)
        have e : sameH g g = true := by simp [sameH]
        rw [e] at this
        exact this)
      have HBR := Lib.hid hBr
      have t1 : (k : Int) < (n : Int) := by omega
      have t2 : (0 : Int) ≤ (k : Int) := by omega
      generalize g.old.length = ol at *
      generalize g.new.length = nl at *
      clear hr1 hr2 hpa hpb hv hu hBr
      go_wp2_with fail
      go_region_held3 (fun W => (W.cell? (pa.add (k * 3)) = some (.int .i64 g.pos) ∧ W.cell? ⟨(pa.add (k * 3)).block, (pa.add (k * 3)).off + 1, none⟩ = some (.slice G1 ol e1) ∧ W.cell? ⟨(pa.add (k * 3)).block, (pa.add (k * 3)).off + 2, none⟩ = some (.slice G2 nl e2)) ∧
          W.cell? (pb.add (k * 3)) = some (.int .i64 g.pos) ∧ W.cell? ⟨(pb.add (k * 3)).block, (pb.add (k * 3)).off + 1, none⟩ = some (.slice H1 ol d1) ∧ W.cell? ⟨(pb.add (k * 3)).block, (pb.add (k * 3)).off + 2, none⟩ = some (.slice H2 nl d2))
        (first
          | go_keep
          | (exact hS1))
        (first
          | (go_at_call 14; refine HS.out.mono ?_; rintro e w2 ⟨rfl, hb2⟩; have hbu := below_drewN (Below.refl wr.heap.size wr) 1; have hbv := hbu.trans hb2; have hS1 := HC.out w2 (hbv.mono HBR.out); have HU := Lib.hid hbv; clear hb2 hbu hbv))
      have HB2 := Lib.hid (HB.out.trans (HU.out.mono HB.out.size))
      clear q0 q1 q2 r0 r1 r2
      go_wp2
      go_roundw
      case rel => exact ⟨k + 1, by omega, by go_num, HB2.out⟩
      case measure => simp [intOf]; omega
    · obtain rfl : k = n := by omega
      go_wp2
      go_ret
      exact ⟨rfl, HB.out⟩

end Hk
end Go.Proofs.Ytkpgkbllcdpobaa
