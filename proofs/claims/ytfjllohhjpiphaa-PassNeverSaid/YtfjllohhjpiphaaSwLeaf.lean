/-
  What the leaf functions of layer 6 return (walks): own, and both ways to pass.
-/
import Derived.Test.YtfjllohhjpiphaaHkTurn
import Derived.Test.YtfjllohhjpiphaaGP
import Derived.Test.YtfjllohhjpiphaaGQ
import Derived.BigQuiet
set_option maxRecDepth 100000
namespace Go.Proofs.Ytfjllohhjpiphaa
open Go.RowKit
set_option linter.unusedVariables false
namespace Sw
open Tx Df Hk

theorem own (A : Option Addr) (c n B : Nat) (ls : List (List UInt8)) (w : World) (hn : ls.length = n) (hln : n ≤ 1000000) (hR : RdS w B A ls) :
    Calls Try.prog 66 #[.slice A n c] w (OwnEnd w n (ls.map strV)) := by
  obtain ⟨j0, hj, hy0, hy1, hy2⟩ := info_parts info_str
  have HN := Lib.hid hn; clear hn
  go_enter Try.func66, Try.ntmps66
  go_wp2_with (at_builtin; refine wpList_nil' rfl (.const (.slice none 0 0)) (.tmp 3) 22 rfl 9 j0 (.string ⟨#[]⟩) 16 Try.underlying22 hj hy0 hy1 hy2 rfl rfl B A n c (ls.map strV) rfl (by rw [List.length_map]; exact HN.out) hR (strs_one _) (by unfold maxLen; omega) (by omega) ?_; intro A' c' w' hA hg)
  go_ret
  exact ⟨A', c', rfl, hA, hg⟩

/-- How a way to pass ends. -/
def WayEnd (w : World) (x y : Int) (b : Bool) (e : Ending) (w' : World) : Prop := e = .returned (.tuple #[.int .i64 x, .int .i64 y, .bool b]) ∧ ∃ d, w' = w.drewN d

set_option maxHeartbeats 2000000 in
theorem way1 (a b : Nat) (A : Option Addr) (n c : Nat) (A' : Option Addr) (n' c' : Nat) (D : Option Addr) (m k : Nat) (D' : Option Addr) (m' k' : Nat) (p q : Int) (w : World)
    (hp0 : 0 ≤ p) (hp1 : p ≤ 1048576) (hq0 : 0 ≤ q) (hq1 : q ≤ 1048576) (hn : n ≤ 1000) (hn' : n' ≤ 1000) (hm : m ≤ 1000) (hm' : m' ≤ 1000)
    (hp : Blk w a 24 #[.int .i64 p, .slice A n c, .slice A' n' c']) (hq : Blk w b 24 #[.int .i64 q, .slice D m k, .slice D' m' k']) :
    Calls Try.prog 64 #[.pointer (some ⟨b, 0, none⟩), .pointer (some ⟨a, 0, none⟩)] w (WayEnd w (q - n' + n) p (decide (p + n' < q))) := by
  have x0 : w.cell? ⟨a, 0, none⟩ = some (.int .i64 p) := hp.cell 0 rfl
  have x1 : w.cell? ⟨a, 1, none⟩ = some (.slice A n c) := hp.cell 1 rfl
  have x2 : w.cell? ⟨a, 2, none⟩ = some (.slice A' n' c') := hp.cell 2 rfl
  have y0 : w.cell? ⟨b, 0, none⟩ = some (.int .i64 q) := hq.cell 0 rfl
  clear hp hq
  go_enter Try.func64, Try.ntmps64
  go_wp2_with fail
  go_quiet (fail)
  go_wp2
  go_ret3
  exact ⟨rfl, _, rfl⟩

set_option maxHeartbeats 2000000 in
theorem way2 (a b : Nat) (A : Option Addr) (n c : Nat) (A' : Option Addr) (n' c' : Nat) (D : Option Addr) (m k : Nat) (D' : Option Addr) (m' k' : Nat) (p q : Int) (w : World)
    (hp0 : 0 ≤ p) (hp1 : p ≤ 1048576) (hq0 : 0 ≤ q) (hq1 : q ≤ 1048576) (hn : n ≤ 1000) (hn' : n' ≤ 1000) (hm : m ≤ 1000) (hm' : m' ≤ 1000)
    (hp : Blk w a 24 #[.int .i64 p, .slice A n c, .slice A' n' c']) (hq : Blk w b 24 #[.int .i64 q, .slice D m k, .slice D' m' k']) :
    Calls Try.prog 65 #[.pointer (some ⟨b, 0, none⟩), .pointer (some ⟨a, 0, none⟩)] w (WayEnd w q (p - m + m') (decide (q + m < p))) := by
  have x0 : w.cell? ⟨a, 0, none⟩ = some (.int .i64 p) := hp.cell 0 rfl
  have y0 : w.cell? ⟨b, 0, none⟩ = some (.int .i64 q) := hq.cell 0 rfl
  have y1 : w.cell? ⟨b, 1, none⟩ = some (.slice D m k) := hq.cell 1 rfl
  have y2 : w.cell? ⟨b, 2, none⟩ = some (.slice D' m' k') := hq.cell 2 rfl
  clear hp hq
  go_enter Try.func65, Try.ntmps65
  go_wp2_with fail
  go_quiet (fail)
  go_wp2
  go_ret3
  exact ⟨rfl, _, rfl⟩

/-- A way to pass, as a value: it holds where the two lie. -/
abbrev wayV (f : Nat) (a b : Nat) : Value := .func (.func f) #[] #[.pointer (some ⟨b, 0, none⟩), .pointer (some ⟨a, 0, none⟩)]
/-- How ways ends: both ways in a list, each holding the same two boxes. -/
def WaysEnd (w : World) (cp cq : Array Value) (e : Ending) (w' : World) : Prop :=
  e = .returned (.slice (some ⟨w.heap.size + 2, 0, none⟩) 2 2) ∧ Blk w' w.heap.size 24 cp ∧ Blk w' (w.heap.size + 1) 24 cq ∧
    Blk w' (w.heap.size + 2) 65 #[wayV 64 w.heap.size (w.heap.size + 1), wayV 65 w.heap.size (w.heap.size + 1)] ∧ Below w.heap.size w w'

theorem ways (A : Option Addr) (n c : Nat) (A' : Option Addr) (n' c' : Nat) (D : Option Addr) (m k : Nat) (D' : Option Addr) (m' k' : Nat) (p q : Int) (w : World) :
    Calls Try.prog 44 #[hkV p A n c A' n' c', hkV q D m k D' m' k'] w (WaysEnd w #[.int .i64 p, .slice A n c, .slice A' n' c'] #[.int .i64 q, .slice D m k, .slice D' m' k']) := by
  go_enter Try.func44, Try.ntmps44
  go_wp2
  go_ret
  have b0 := ((Blk.new w 24 #[.int .i64 p, .slice A n c, .slice A' n' c']).alloc (.cells #[.int .i64 q, .slice D m k, .slice D' m' k'] 24)).alloc (.cells #[wayV 64 w.heap.size (w.heap.size + 1), wayV 65 w.heap.size (w.heap.size + 1)] 65)
  have b1 := (Blk.new (w.alloc (.cells #[.int .i64 p, .slice A n c, .slice A' n' c'] 24)) 24 #[.int .i64 q, .slice D m k, .slice D' m' k']).alloc (.cells #[wayV 64 w.heap.size (w.heap.size + 1), wayV 65 w.heap.size (w.heap.size + 1)] 65)
  have b2 := Blk.new ((w.alloc (.cells #[.int .i64 p, .slice A n c, .slice A' n' c'] 24)).alloc (.cells #[.int .i64 q, .slice D m k, .slice D' m' k'] 24)) 65 #[wayV 64 w.heap.size (w.heap.size + 1), wayV 65 w.heap.size (w.heap.size + 1)]
  simp only [World.size_alloc] at b1 b2
  exact ⟨rfl, b0, b1, b2, (((Below.refl _ _).alloc (Nat.le_refl _) _).alloc (by simp) _).alloc (by simp; omega) _⟩

/-- How placed ends. -/
def PlacedEnd (w : World) (n n' : Nat) (h : HU) (e : Ending) (w' : World) : Prop :=
  ∃ D k D' k', e = .returned (hkV h.pos D n k D' n' k') ∧ HV w' w'.heap.size D n k D' n' k' h ∧ (Hi w.heap.size D ∧ Hi w.heap.size D') ∧ Below w.heap.size w w'

set_option maxRecDepth 100000 in
set_option maxHeartbeats 2000000 in
theorem placed (A : Option Addr) (n c : Nat) (A' : Option Addr) (n' c' B : Nat) (h : HU) (i : Int) (w : World) (hB : B ≤ w.heap.size) (hn : n ≤ 1000) (hn' : n' ≤ 1000) (hv : HV w B A n c A' n' c' h) (hi : I64 i) :
    Calls Try.prog 45 #[hkV h.pos A n c A' n' c', .int .i64 i] w (PlacedEnd w n n' (at_ h i)) := by
  have HV0 := Lib.hid hv
  have HL := Lib.hid hv.l; have HL' := Lib.hid hv.l'
  have R := Lib.hid hv.r; have R' := Lib.hid hv.r'
  clear hv
  obtain ⟨p, hp⟩ : ∃ p, h.pos = p := ⟨_, rfl⟩
  rw [hp]
  have HI := Lib.hid hi; clear hi hp
  go_enter Try.func45, Try.ntmps45
  go_wp2_with fail
  have b1 := (Blk.new w 24 #[.int .i64 p, .slice A n c, .slice A' n' c']).alloc (.cells #[.int .i64 0, .slice none 0 0, .slice none 0 0] 24)
  have b2 := Blk.new (w.alloc (.cells #[.int .i64 p, .slice A n c, .slice A' n' c'] 24)) 24 #[.int .i64 0, .slice none 0 0, .slice none 0 0]
  have hw : Below w.heap.size w ((w.alloc (.cells #[.int .i64 p, .slice A n c, .slice A' n' c'] 24)).alloc (.cells #[.int .i64 0, .slice none 0 0, .slice none 0 0] 24)) := ((Below.refl _ _).alloc (Nat.le_refl _) _).alloc (by simp) _
  simp only [World.size_alloc] at b2
  generalize hW : (w.alloc (.cells #[.int .i64 p, .slice A n c, .slice A' n' c'] 24)).alloc (.cells #[.int .i64 0, .slice none 0 0, .slice none 0 0] 24) = W at *
  clear hW
  have R1 := Lib.hid (Rd.below R.out (hw.mono hB))
  have R1' := Lib.hid (Rd.below R'.out (hw.mono hB))
  have B1 := Lib.hid b1; have B2 := Lib.hid b2; have HW := Lib.hid hw; clear b1 b2 hw
  have HBW : Hid (B ≤ W.heap.size) := Lib.hid (Nat.le_trans hB HW.out.size)
  obtain ⟨g, hgs⟩ : ∃ g, w.heap.size = g := ⟨_, rfl⟩
  rw [hgs] at HW B1 B2 hB ⊢
  have HGS := Lib.hid hgs; clear hgs
  have x0 : W.cell? ⟨g, 0, none⟩ = some (.int .i64 p) := B1.out.cell 0 rfl
  have x1 : W.cell? ⟨g, 1, none⟩ = some (.slice A n c) := B1.out.cell 1 rfl
  have x2 : W.cell? ⟨g, 2, none⟩ = some (.slice A' n' c') := B1.out.cell 2 rfl
  go_region_held3 (fun w' => w'.cell? ⟨g, 1, none⟩ = some (.slice A n c) ∧ w'.cell? ⟨g, 2, none⟩ = some (.slice A' n' c'))
    (first | go_keep | (exact ⟨y1, y2⟩) | (exact ⟨z1, z2⟩))
    (first
      | (go_at_call 66; refine (own A c n B h.old W.drew HL.out (by omega) (Rd.drewN R1.out 1)).mono ?_; rintro e w1 ⟨D, k, rfl, hr1, hg1⟩;
          have y1 := cell_gr hg1 (nn _) x1; have y2 := cell_gr hg1 (nn _) x2; have HR1 := Lib.hid hr1; have HG1 := Lib.hid hg1; clear hr1 hg1)
      | (go_at_call 66; refine (own A' c' n' B h.new w1 HL'.out (by omega) (Rd.below (Rd.drewN R1'.out 1) ((below_gr HG1.out).mono HBW.out))).mono ?_; rintro e w2 ⟨D', k', rfl, hr2, hg2⟩;
          have z1 := cell_gr hg2 (nn _) y1; have z2 := cell_gr hg2 (nn _) y2;
          have b3 := ((B2.out.drewN 1).gr HG1.out (nn _)).gr hg2 (nn _); have q0 : w2.cell? ⟨g + 1, 0, none⟩ = some (.int .i64 0) := b3.cell 0 rfl; have q1 : w2.cell? ⟨g + 1, 1, none⟩ = some (.slice none 0 0) := b3.cell 1 rfl; have q2 : w2.cell? ⟨g + 1, 2, none⟩ = some (.slice none 0 0) := b3.cell 2 rfl; have f0 := b3.frozen 0; have f1 := b3.frozen 1; have f2 := b3.frozen 2;
          have B3 := Lib.hid b3; clear b3; have HR2 := Lib.hid hr2; have HG2 := Lib.hid hg2; clear hr2 hg2))
  go_wp2_with fail
  have b4 := ((B3.out.set 0 (.int .i64 i)).set 1 (.slice D n k)).set 2 (.slice D' n' k')
  have hg1 : g + 1 < W.heap.size := B2.out.lt
  have hs1 : W.heap.size ≤ w1.heap.size := HG1.out.size
  have o1 := own_set (own_set (own_set (own_gr HR1.out HG2.out) hg1 0 (.int .i64 i)) hg1 1 (.slice D n k)) hg1 2 (.slice D' n' k')
  have o2 := own_set (own_set (own_set HR2.out (Nat.lt_of_lt_of_le hg1 hs1) 0 (.int .i64 i)) (Nat.lt_of_lt_of_le hg1 hs1) 1 (.slice D n k)) (Nat.lt_of_lt_of_le hg1 hs1) 2 (.slice D' n' k')
  have hB3 : Below g w (((w2.setCell ⟨g + 1, 0, none⟩ (.int .i64 i)).setCell ⟨g + 1, 1, none⟩ (.slice D n k)).setCell ⟨g + 1, 2, none⟩ (.slice D' n' k')) := (((HW.out.trans (((below_drewN (Below.refl W.heap.size W) 1).trans (below_gr HG1.out)).mono (Nat.le_trans (by omega) hg1)) |>.trans ((below_gr HG2.out).mono (by omega))).setCell (p := ⟨g + 1, 0, none⟩) (by show g ≤ g + 1; omega) _).setCell (p := ⟨g + 1, 1, none⟩) (by show g ≤ g + 1; omega) _).setCell (p := ⟨g + 1, 2, none⟩) (by show g ≤ g + 1; omega) _
  generalize ((w2.setCell ⟨g + 1, 0, none⟩ (.int .i64 i)).setCell ⟨g + 1, 1, none⟩ (.slice D n k)).setCell ⟨g + 1, 2, none⟩ (.slice D' n' k') = W3 at *
  have q0 : W3.cell? ⟨g + 1, 0, none⟩ = some (.int .i64 i) := b4.cell 0 rfl
  have q1 : W3.cell? ⟨g + 1, 1, none⟩ = some (.slice D n k) := b4.cell 1 rfl
  have q2 : W3.cell? ⟨g + 1, 2, none⟩ = some (.slice D' n' k') := b4.cell 2 rfl
  obtain ⟨_, _, e1, hk1, r1⟩ := rd_of_own o1
  obtain ⟨_, _, e2, hk2, r2⟩ := rd_of_own o2
  cases e1; cases e2
  refine bodyPost_ret (v := hkV i D n k D' n' k') (by simp [results, Try.results45, go_sem, q0, q1, q2]) rfl ?_
  refine ⟨D, k, D', k', rfl, ⟨HL.out, HL'.out, hk1, hk2, HV0.out.m, HV0.out.m', r1, r2, HI.out⟩, ⟨(hi_own o1).mono (show w.heap.size ≤ W.drew.heap.size from HW.out.size), (hi_own o2).mono (Nat.le_trans HW.out.size hs1)⟩, by rw [HGS.out]; exact hB3⟩

end Sw
end Go.Proofs.Ytfjllohhjpiphaa
