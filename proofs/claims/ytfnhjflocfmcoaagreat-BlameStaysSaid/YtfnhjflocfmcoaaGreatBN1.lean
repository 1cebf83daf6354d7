/-
  Words and contracts, joined: GW GZ GF GN PrMay PrTurn TrIns.
-/
import Derived.BigQuiet
import Derived.Deep.RegionHeld3
import Derived.Deep.Cut
import Derived.Laws.EntriesVeiled
import Derived.Lib.AppendZerosOnto
import Derived.Laws.NewBlocks
import Derived.Deep.RegionLaw
import Derived.Test.YtfnhjflocfmcoaaGreatBN0
set_option maxRecDepth 100000
namespace Go.Proofs.YtfnhjflocfmcoaaGreat
open Go.RowKit
set_option linter.unusedVariables false
namespace Sw
open Tx Df Hk

theorem own (A : Option Addr) (c n B : Nat) (ls : List (List UInt8)) (w : World) (hn : ls.length = n) (hln : n ≤ 1000000) (hR : RdS w B A ls) :
    Calls Tryz.prog 133 #[.slice A n c] w (OwnEnd w n (ls.map strV)) := by
  obtain ⟨j0, hj, hy0, hy1, hy2⟩ := info_parts info_str
  have HN := Lib.hid hn; clear hn
  go_enter Tryz.func133, Tryz.ntmps133
  go_wp2_with (at_builtin; refine wpList_nil' rfl (.const (.slice none 0 0)) (.tmp 3) 49 rfl 9 j0 (.string ⟨#[]⟩) 16 Tryz.underlying49 hj hy0 hy1 hy2 rfl rfl B A n c (ls.map strV) rfl (by rw [List.length_map]; exact HN.out) hR (strs_one _) (by unfold maxLen; omega) (by omega) ?_; intro A' c' w' hA hg)
  go_ret
  exact ⟨A', c', rfl, hA, hg⟩

/-- How a way to pass ends. -/
def WayEnd (w : World) (x y : Int) (b : Bool) (e : Ending) (w' : World) : Prop := e = .returned (.tuple #[.int .i64 x, .int .i64 y, .bool b]) ∧ ∃ d, w' = w.drewN d

set_option maxHeartbeats 2000000 in
theorem way1 (a b : Nat) (A : Option Addr) (n c : Nat) (A' : Option Addr) (n' c' : Nat) (D : Option Addr) (m k : Nat) (D' : Option Addr) (m' k' : Nat) (p q : Int) (w : World)
    (hp0 : 0 ≤ p) (hp1 : p ≤ 1048576) (hq0 : 0 ≤ q) (hq1 : q ≤ 1048576) (hn : n ≤ 1000) (hn' : n' ≤ 1000) (hm : m ≤ 1000) (hm' : m' ≤ 1000)
    (hp : Blk w a 53 #[.int .i64 p, .slice A n c, .slice A' n' c']) (hq : Blk w b 53 #[.int .i64 q, .slice D m k, .slice D' m' k']) :
    Calls Tryz.prog 131 #[.pointer (some ⟨b, 0, none⟩), .pointer (some ⟨a, 0, none⟩)] w (WayEnd w (q - n' + n) p (decide (p + n' < q))) := by
  have x0 : w.cell? ⟨a, 0, none⟩ = some (.int .i64 p) := hp.cell 0 rfl
  have x1 : w.cell? ⟨a, 1, none⟩ = some (.slice A n c) := hp.cell 1 rfl
  have x2 : w.cell? ⟨a, 2, none⟩ = some (.slice A' n' c') := hp.cell 2 rfl
  have y0 : w.cell? ⟨b, 0, none⟩ = some (.int .i64 q) := hq.cell 0 rfl
  clear hp hq
  go_enter Tryz.func131, Tryz.ntmps131
  go_wp2_with fail
  go_quiet (fail)
  go_wp2
  go_ret3
  exact ⟨rfl, _, rfl⟩

set_option maxHeartbeats 2000000 in
theorem way2 (a b : Nat) (A : Option Addr) (n c : Nat) (A' : Option Addr) (n' c' : Nat) (D : Option Addr) (m k : Nat) (D' : Option Addr) (m' k' : Nat) (p q : Int) (w : World)
    (hp0 : 0 ≤ p) (hp1 : p ≤ 1048576) (hq0 : 0 ≤ q) (hq1 : q ≤ 1048576) (hn : n ≤ 1000) (hn' : n' ≤ 1000) (hm : m ≤ 1000) (hm' : m' ≤ 1000)
    (hp : Blk w a 53 #[.int .i64 p, .slice A n c, .slice A' n' c']) (hq : Blk w b 53 #[.int .i64 q, .slice D m k, .slice D' m' k']) :
    Calls Tryz.prog 132 #[.pointer (some ⟨b, 0, none⟩), .pointer (some ⟨a, 0, none⟩)] w (WayEnd w q (p - m + m') (decide (q + m < p))) := by
  have x0 : w.cell? ⟨a, 0, none⟩ = some (.int .i64 p) := hp.cell 0 rfl
  have y0 : w.cell? ⟨b, 0, none⟩ = some (.int .i64 q) := hq.cell 0 rfl
  have y1 : w.cell? ⟨b, 1, none⟩ = some (.slice D m k) := hq.cell 1 rfl
  have y2 : w.cell? ⟨b, 2, none⟩ = some (.slice D' m' k') := hq.cell 2 rfl
  clear hp hq
  go_enter Tryz.func132, Tryz.ntmps132
  go_wp2_with fail
  go_quiet (fail)
  go_wp2
  go_ret3
  exact ⟨rfl, _, rfl⟩

/-- A way to pass, as a value: it holds where the two lie. -/
abbrev wayV (f : Nat) (a b : Nat) : Value := .func (.func f) #[] #[.pointer (some ⟨b, 0, none⟩), .pointer (some ⟨a, 0, none⟩)]
/-- How ways ends: both ways in a list, each holding the same two boxes. -/
def WaysEnd (w : World) (cp cq : Array Value) (e : Ending) (w' : World) : Prop :=
  e = .returned (.slice (some ⟨w.heap.size + 2, 0, none⟩) 2 2) ∧ Blk w' w.heap.size 53 cp ∧ Blk w' (w.heap.size + 1) 53 cq ∧
    Blk w' (w.heap.size + 2) 154 #[wayV 131 w.heap.size (w.heap.size + 1), wayV 132 w.heap.size (w.heap.size + 1)] ∧ Below w.heap.size w w'

theorem ways (A : Option Addr) (n c : Nat) (A' : Option Addr) (n' c' : Nat) (D : Option Addr) (m k : Nat) (D' : Option Addr) (m' k' : Nat) (p q : Int) (w : World) :
    Calls Tryz.prog 110 #[hkV p A n c A' n' c', hkV q D m k D' m' k'] w (WaysEnd w #[.int .i64 p, .slice A n c, .slice A' n' c'] #[.int .i64 q, .slice D m k, .slice D' m' k']) := by
  go_enter Tryz.func110, Tryz.ntmps110
  go_wp2
  go_ret
  have b0 := ((Blk.new w 53 #[.int .i64 p, .slice A n c, .slice A' n' c']).alloc (.cells #[.int .i64 q, .slice D m k, .slice D' m' k'] 53)).alloc (.cells #[wayV 131 w.heap.size (w.heap.size + 1), wayV 132 w.heap.size (w.heap.size + 1)] 154)
  have b1 := (Blk.new (w.alloc (.cells #[.int .i64 p, .slice A n c, .slice A' n' c'] 53)) 53 #[.int .i64 q, .slice D m k, .slice D' m' k']).alloc (.cells #[wayV 131 w.heap.size (w.heap.size + 1), wayV 132 w.heap.size (w.heap.size + 1)] 154)
  have b2 := Blk.new ((w.alloc (.cells #[.int .i64 p, .slice A n c, .slice A' n' c'] 53)).alloc (.cells #[.int .i64 q, .slice D m k, .slice D' m' k'] 53)) 154 #[wayV 131 w.heap.size (w.heap.size + 1), wayV 132 w.heap.size (w.heap.size + 1)]
  simp only [World.size_alloc] at b1 b2
  exact ⟨rfl, b0, b1, b2, (((Below.refl _ _).alloc (Nat.le_refl _) _).alloc (by simp) _).alloc (by simp; omega) _⟩

/-- How placed ends. -/
def PlacedEnd (w : World) (n n' : Nat) (h : HU) (e : Ending) (w' : World) : Prop :=
  ∃ D k D' k', e = .returned (hkV h.pos D n k D' n' k') ∧ HV w' w'.heap.size D n k D' n' k' h ∧ (Hi w.heap.size D ∧ Hi w.heap.size D') ∧ Below w.heap.size w w'

set_option maxRecDepth 100000 in
set_option maxHeartbeats 2000000 in
theorem placed (A : Option Addr) (n c : Nat) (A' : Option Addr) (n' c' B : Nat) (h : HU) (i : Int) (w : World) (hB : B ≤ w.heap.size) (hn : n ≤ 1000) (hn' : n' ≤ 1000) (hv : HV w B A n c A' n' c' h) (hi : I64 i) :
    Calls Tryz.prog 111 #[hkV h.pos A n c A' n' c', .int .i64 i] w (PlacedEnd w n n' (at_ h i)) := by
  have HV0 := Lib.hid hv
  have HL := Lib.hid hv.l; have HL' := Lib.hid hv.l'
  have R := Lib.hid hv.r; have R' := Lib.hid hv.r'
  clear hv
  obtain ⟨p, hp⟩ : ∃ p, h.pos = p := ⟨_, rfl⟩
  rw [hp]
  have HI := Lib.hid hi; clear hi hp
  go_enter Tryz.func111, Tryz.ntmps111
  go_wp2_with fail
  have b1 := (Blk.new w 53 #[.int .i64 p, .slice A n c, .slice A' n' c']).alloc (.cells #[.int .i64 0, .slice none 0 0, .slice none 0 0] 53)
  have b2 := Blk.new (w.alloc (.cells #[.int .i64 p, .slice A n c, .slice A' n' c'] 53)) 53 #[.int .i64 0, .slice none 0 0, .slice none 0 0]
  have hw : Below w.heap.size w ((w.alloc (.cells #[.int .i64 p, .slice A n c, .slice A' n' c'] 53)).alloc (.cells #[.int .i64 0, .slice none 0 0, .slice none 0 0] 53)) := ((Below.refl _ _).alloc (Nat.le_refl _) _).alloc (by simp) _
  simp only [World.size_alloc] at b2
  generalize hW : (w.alloc (.cells #[.int .i64 p, .slice A n c, .slice A' n' c'] 53)).alloc (.cells #[.int .i64 0, .slice none 0 0, .slice none 0 0] 53) = W at *
  clear hW
  have R1 := Lib.hid (Rd.below R.out (hw.mono hB))
  have R1' := Lib.hid (Rd.below R'.out (hw.mono hB))
  have B1 := Lib.hid b1; have B2 := Lib.hid b2; have HW := Lib.hid hw; clear b1 b2 hw
  have HBW : Hid (B ≤ W.heap.size) := Lib.hid (Nat.le_trans hB HW.out.size)
  obtain ⟨g, hgs⟩ : ∃ g, w.heap.size = g := ⟨_, rfl⟩
  rw [hgs] at HW B1 B2 hB ⊢
  have HGS := Lib.hid hgs; clear hgs
  have x0 : W.cell? ⟨g, 0, none⟩ = some (.int .i64 p) := B1.out.cell 0 rfl
  have x1 : W.cell? ⟨g, 1, none⟩ = some (.slice A n c) := B1.out.cell 1 rfl
  have x2 : W.cell? ⟨g, 2, none⟩ = some (.slice A' n' c') := B1.out.cell 2 rfl
  go_region_held3 (fun w' => w'.cell? ⟨g, 1, none⟩ = some (.slice A n c) ∧ w'.cell? ⟨g, 2, none⟩ = some (.slice A' n' c'))
    (first | go_keep | (exact ⟨y1, y2⟩) | (exact ⟨z1, z2⟩))
    (first
      | (go_at_call 133; refine (own A c n B h.old W.drew HL.out (by omega) (Rd.drewN R1.out 1)).mono ?_; rintro e w1 ⟨D, k, rfl, hr1, hg1⟩;
          have y1 := cell_gr hg1 (nn _) x1; have y2 := cell_gr hg1 (nn _) x2; have HR1 := Lib.hid hr1; have HG1 := Lib.hid hg1; clear hr1 hg1)
      | (go_at_call 133; refine (own A' c' n' B h.new w1 HL'.out (by omega) (Rd.below (Rd.drewN R1'.out 1) ((below_gr HG1.out).mono HBW.out))).mono ?_; rintro e w2 ⟨D', k', rfl, hr2, hg2⟩;
          have z1 := cell_gr hg2 (nn _) y1; have z2 := cell_gr hg2 (nn _) y2;
          have b3 := ((B2.out.drewN 1).gr HG1.out (nn _)).gr hg2 (nn _); have q0 : w2.cell? ⟨g + 1, 0, none⟩ = some (.int .i64 0) := b3.cell 0 rfl; have q1 : w2.cell? ⟨g + 1, 1, none⟩ = some (.slice none 0 0) := b3.cell 1 rfl; have q2 : w2.cell? ⟨g + 1, 2, none⟩ = some (.slice none 0 0) := b3.cell 2 rfl; have f0 := b3.frozen 0; have f1 := b3.frozen 1; have f2 := b3.frozen 2;
          have B3 := Lib.hid b3; clear b3; have HR2 := Lib.hid hr2; have HG2 := Lib.hid hg2; clear hr2 hg2))
  go_wp2_with fail
  have b4 := ((B3.out.set 0 (.int .i64 i)).set 1 (.slice D n k)).set 2 (.slice D' n' k')
  have hg1 : g + 1 < W.heap.size := B2.out.lt
  have hs1 : W.heap.size ≤ w1.heap.size := HG1.out.size
  have o1 := own_set (own_set (own_set (own_gr HR1.out HG2.out) hg1 0 (.int .i64 i)) hg1 1 (.slice D n k)) hg1 2 (.slice D' n' k')
  have o2 := own_set (own_set (own_set HR2.out (Nat.lt_of_lt_of_le hg1 hs1) 0 (.int .i64 i)) (Nat.lt_of_lt_of_le hg1 hs1) 1 (.slice D n k)) (Nat.lt_of_lt_of_le hg1 hs1) 2 (.slice D' n' k')
  have hB3 : Below g w (((w2.setCell ⟨g + 1, 0, none⟩ (.int .i64 i)).setCell ⟨g + 1, 1, none⟩ (.slice D n k)).setCell ⟨g + 1, 2, none⟩ (.slice D' n' k')) := (((HW.out.trans (((below_drewN (Below.refl W.heap.size W) 1).trans (below_gr HG1.out)).mono (Nat.le_trans (by omega) hg1)) |>.trans ((below_gr HG2.out).mono (by omega))).setCell (p := ⟨g + 1, 0, none⟩) (by show g ≤ g + 1; omega) _).setCell (p := ⟨g + 1, 1, none⟩) (by show g ≤ g + 1; omega) _).setCell (p := ⟨g + 1, 2, none⟩) (by show g ≤ g + 1; omega) _
  generalize ((w2.setCell ⟨g + 1, 0, none⟩ (.int .i64 i)).setCell ⟨g + 1, 1, none⟩ (.slice D n k)).setCell ⟨g + 1, 2, none⟩ (.slice D' n' k') = W3 at *
  have q0 : W3.cell? ⟨g + 1, 0, none⟩ = some (.int .i64 i) := b4.cell 0 rfl
  have q1 : W3.cell? ⟨g + 1, 1, none⟩ = some (.slice D n k) := b4.cell 1 rfl
  have q2 : W3.cell? ⟨g + 1, 2, none⟩ = some (.slice D' n' k') := b4.cell 2 rfl
  obtain ⟨_, _, e1, hk1, r1⟩ := rd_of_own o1
  obtain ⟨_, _, e2, hk2, r2⟩ := rd_of_own o2
  cases e1; cases e2
  refine bodyPost_ret (v := hkV i D n k D' n' k') (by simp [results, Tryz.results111, go_sem, q0, q1, q2]) rfl ?_
  refine ⟨D, k, D', k', rfl, ⟨HL.out, HL'.out, hk1, hk2, HV0.out.m, HV0.out.m', r1, r2, HI.out⟩, ⟨(hi_own o1).mono (show w.heap.size ≤ W.drew.heap.size from HW.out.size), (hi_own o2).mono (Nat.le_trans HW.out.size hs1)⟩, by rw [HGS.out]; exact hB3⟩

end Sw
end Go.Proofs.YtfnhjflocfmcoaaGreat

namespace Go.Proofs.YtfnhjflocfmcoaaGreat
open Go.RowKit
set_option linter.unusedVariables false
namespace Sw
open Tx Df Hk

/-- What Pass tells: nothing if one may not be, or if one would stand above the limit. -/
def passH (p q : HU) : Option (HU × HU) := if mayH p && mayH q then (pass p q).bind (fun z => if z.1.pos ≤ 1048576 ∧ z.2.pos ≤ 1048576 then some z else none) else none
def zeroH : HU := ⟨0, [], []⟩
def outH (o : Option (HU × HU)) : HU × HU := o.getD (zeroH, zeroH)

/-- How Pass ends. -/
def PassEnd (w : World) (o : Option (HU × HU)) (e : Ending) (w' : World) : Prop :=
  ∃ A n c A' n' c' D m k D' m' k', e = .returned (.tuple #[hkV (outH o).1.pos A n c A' n' c', hkV (outH o).2.pos D m k D' m' k', .bool o.isSome]) ∧
    HV w' w'.heap.size A n c A' n' c' (outH o).1 ∧ HV w' w'.heap.size D m k D' m' k' (outH o).2 ∧ Below w.heap.size w w'

/-- The same, of lines in memory of their own. -/
def PassEndH (w : World) (o : Option (HU × HU)) (e : Ending) (w' : World) : Prop :=
  ∃ A n c A' n' c' D m k D' m' k', e = .returned (.tuple #[hkV (outH o).1.pos A n c A' n' c', hkV (outH o).2.pos D m k D' m' k', .bool o.isSome]) ∧
    HV w' w'.heap.size A n c A' n' c' (outH o).1 ∧ HV w' w'.heap.size D m k D' m' k' (outH o).2 ∧ (Hi w.heap.size A ∧ Hi w.heap.size A' ∧ Hi w.heap.size D ∧ Hi w.heap.size D') ∧ Below w.heap.size w w'
theorem PassEndH.end_ {w w' : World} {o : Option (HU × HU)} {e : Ending} (h : PassEndH w o e w') : PassEnd w o e w' := by
  obtain ⟨A, n, c, A', n', c', D, m, k, D', m', k', h1, h2, h3, _, h4⟩ := h
  exact ⟨A, n, c, A', n', c', D, m, k, D', m', k', h1, h2, h3, h4⟩
theorem passH_may {p q : HU} {z : HU × HU} (h : passH p q = some z) : mayH p = true ∧ mayH q = true ∧ pass p q = some z ∧ z.1.pos ≤ 1048576 ∧ z.2.pos ≤ 1048576 := by
  unfold passH at h
  split at h
  · rename_i hm
    rw [Bool.and_eq_true] at hm
    cases hp : pass p q with
    | none => rw [hp] at h; cases h
    | some y =>
      rw [hp, Option.bind_some] at h
      split at h
      · rename_i hl
        cases h
        exact ⟨hm.1, hm.2, rfl, hl.1, hl.2⟩
      · cases h
  · cases h
theorem passH_some {p q : HU} {z : HU × HU} (h1 : mayH p = true) (h2 : mayH q = true) (h : pass p q = some z) (h3 : z.1.pos ≤ 1048576) (h4 : z.2.pos ≤ 1048576) : passH p q = some z := by
  unfold passH
  rw [h1, h2, h, Option.bind_some]
  simp [h3, h4]
theorem passH_no1 {p q : HU} (h : mayH p = false) : passH p q = none := by unfold passH; rw [h]; rfl
theorem passH_no2 {p q : HU} (h : mayH q = false) : passH p q = none := by unfold passH; rw [h, Bool.and_false]; rfl
theorem mayH_pos {h : HU} (hm : mayH h = true) : 0 ≤ h.pos ∧ h.pos ≤ 1048576 := by
  unfold mayH at hm
  simp only [Bool.and_eq_true, decide_eq_true_eq] at hm
  exact hm.1

/-- The first way is shut; the second one is. -/
def Shut1 (p q : HU) (n n' : Nat) : Prop := ¬ (p.pos + n' < q.pos ∧ q.pos - n' + n ≤ 1048576 ∧ p.pos ≤ 1048576)
def Shut2 (p q : HU) (m m' : Nat) : Prop := ¬ (q.pos + m < p.pos ∧ q.pos ≤ 1048576 ∧ p.pos - m + m' ≤ 1048576)
theorem passH_shut {p q : HU} {n n' m m' : Nat} (hn : p.old.length = n) (hn' : p.new.length = n') (hm : q.old.length = m) (hm' : q.new.length = m') (h1 : Shut1 p q n n') (h2 : Shut2 p q m m') : passH p q = none := by
  subst hn hn' hm hm'
  unfold Shut1 at h1
  unfold Shut2 at h2
  cases h : passH p q with
  | none => rfl
  | some z =>
    obtain ⟨_, _, h3, h4, h5⟩ := passH_may h
    rcases pass_cases (x := z.1) (y := z.2) h3 with ⟨a1, a2, a3⟩ | ⟨a1, a2, a3⟩
    · rw [a2] at h4; rw [a3] at h5; exact absurd ⟨a1, h4, h5⟩ h1
    · rw [a2] at h4; rw [a3] at h5; exact absurd ⟨a1, h4, h5⟩ h2
theorem passH_open1 {p q : HU} {n n' : Nat} (hn : p.old.length = n) (hn' : p.new.length = n') (h1 : mayH p = true) (h2 : mayH q = true) (h : p.pos + n' < q.pos) (h3 : q.pos - n' + n ≤ 1048576) (h4 : p.pos ≤ 1048576) : passH p q = some (at_ q (q.pos - n' + n), p) := by
  subst hn hn'
  exact passH_some h1 h2 (pass_ahead h) h3 h4
theorem passH_open2 {p q : HU} {m m' : Nat} (hm : q.old.length = m) (hm' : q.new.length = m') (h1 : mayH p = true) (h2 : mayH q = true) (h : q.pos + m < p.pos) (h3 : q.pos ≤ 1048576) (h4 : p.pos - m + m' ≤ 1048576) : passH p q = some (q, at_ p (p.pos - m + m')) := by
  subst hm hm'
  exact passH_some h1 h2 (pass_behind h) h3 h4

theorem zero_HV (w : World) (B : Nat) : HV w B none 0 0 none 0 0 zeroH := ⟨rfl, rfl, Nat.le_refl _, Nat.le_refl _, Nat.zero_le _, Nat.zero_le _, .inl rfl, .inl rfl, ⟨by decide, by decide⟩⟩
theorem passEnd_none {w w' : World} {o : Option (HU × HU)} (ho : o = none) (hb : Below w.heap.size w w') : PassEnd w o (.returned (.tuple #[hkV 0 none 0 0 none 0 0, hkV 0 none 0 0 none 0 0, .bool false])) w' := by
  subst ho
  exact ⟨none, 0, 0, none, 0, 0, none, 0, 0, none, 0, 0, rfl, zero_HV _ _, zero_HV _ _, hb⟩

theorem passEndH_none {w w' : World} {o : Option (HU × HU)} (ho : o = none) (hb : Below w.heap.size w w') : PassEndH w o (.returned (.tuple #[hkV 0 none 0 0 none 0 0, hkV 0 none 0 0 none 0 0, .bool false])) w' := by
  subst ho
  exact ⟨none, 0, 0, none, 0, 0, none, 0, 0, none, 0, 0, rfl, zero_HV _ _, zero_HV _ _, ⟨hi_none _, hi_none _, hi_none _, hi_none _⟩, hb⟩

/-- Two structs stored, one behind the other. -/
theorem two_set {W : World} {b b' : Nat} {t : TypeId} {x0 x1 x2 y0 y1 y2 : Value} (h : Blk W b t #[x0, x1, x2]) (h' : Blk W b' t #[y0, y1, y2]) (hne : b ≠ b') (v0 v1 v2 u0 u1 u2 : Value) :
    Blk ((((((W.setCell ⟨b, 0, none⟩ v0).setCell ⟨b, 1, none⟩ v1).setCell ⟨b, 2, none⟩ v2).setCell ⟨b', 0, none⟩ u0).setCell ⟨b', 1, none⟩ u1).setCell ⟨b', 2, none⟩ u2) b t #[v0, v1, v2] ∧
    Blk ((((((W.setCell ⟨b, 0, none⟩ v0).setCell ⟨b, 1, none⟩ v1).setCell ⟨b, 2, none⟩ v2).setCell ⟨b', 0, none⟩ u0).setCell ⟨b', 1, none⟩ u1).setCell ⟨b', 2, none⟩ u2) b' t #[u0, u1, u2] :=
  ⟨(((((h.set 0 v0).set 1 v1).set 2 v2).set_ne hne 0 u0).set_ne hne 1 u1).set_ne hne 2 u2,
   (((((h'.set_ne hne.symm 0 v0).set_ne hne.symm 1 v1).set_ne hne.symm 2 v2).set 0 u0).set 1 u1).set 2 u2⟩
theorem below_set6 {B : Nat} {w W : World} {b b' : Nat} (h : Below B w W) (hb : B ≤ b) (hb' : B ≤ b') (v0 v1 v2 u0 u1 u2 : Value) :
    Below B w ((((((W.setCell ⟨b, 0, none⟩ v0).setCell ⟨b, 1, none⟩ v1).setCell ⟨b, 2, none⟩ v2).setCell ⟨b', 0, none⟩ u0).setCell ⟨b', 1, none⟩ u1).setCell ⟨b', 2, none⟩ u2) :=
  (((((h.setCell (p := ⟨b, 0, none⟩) hb v0).setCell (p := ⟨b, 1, none⟩) hb v1).setCell (p := ⟨b, 2, none⟩) hb v2).setCell (p := ⟨b', 0, none⟩) hb' u0).setCell (p := ⟨b', 1, none⟩) hb' u1).setCell (p := ⟨b', 2, none⟩) hb' u2

/-- What reads as lines reads so still where a hunk's variable is set. -/
theorem rdS_hset {W : World} {B b : Nat} {t : TypeId} {x0 : Int} {A1 A2 : Option Addr} {n1 c1 n2 c2 : Nat} {A : Option Addr} {ls : List (List UInt8)} (hb : Blk W b t #[.int .i64 x0, .slice A1 n1 c1, .slice A2 n2 c2]) (j : Nat) (v : Value) (hR : RdS W B A ls) : RdS (W.setCell ⟨b, j, none⟩ v) B A ls := by
  rcases hR with h | ⟨a, e, hlt, hc⟩
  · exact .inl h
  · refine .inr ⟨a, e, hlt, fun i u hu => ?_⟩
    have hcell := hc i u hu
    refine cell_set hcell (fun eq => ?_) j v
    rw [List.getElem?_map, Option.map_eq_some_iff] at hu
    obtain ⟨l, _, rfl⟩ := hu
    unfold World.cell? at hcell
    rw [eq, show W.heap[b]? = _ from hb] at hcell
    simp only at hcell
    split at hcell
    · cases hcell
    · match hi : (a.add i).off with
      | 0 => rw [hi] at hcell; simp [strV] at hcell
      | 1 => rw [hi] at hcell; simp [strV] at hcell
      | 2 => rw [hi] at hcell; simp [strV] at hcell
      | k + 3 => rw [hi] at hcell; simp at hcell
theorem hv_set3 {W : World} {B b : Nat} {t : TypeId} {x0 : Int} {A1 A2 : Option Addr} {n1 c1 n2 c2 : Nat} {A A' : Option Addr} {n c n' c' : Nat} {h : HU} (hb : Blk W b t #[.int .i64 x0, .slice A1 n1 c1, .slice A2 n2 c2]) (i : Int) (D : Option Addr) (m k : Nat) (D' : Option Addr) (m' k' : Nat)
    (hv : HV W B A n c A' n' c' h) : HV (((W.setCell ⟨b, 0, none⟩ (.int .i64 i)).setCell ⟨b, 1, none⟩ (.slice D m k)).setCell ⟨b, 2, none⟩ (.slice D' m' k')) B A n c A' n' c' h :=
  have b1 : Blk (W.setCell ⟨b, 0, none⟩ (.int .i64 i)) b t #[.int .i64 i, .slice A1 n1 c1, .slice A2 n2 c2] := hb.set 0 _
  have b2 : Blk ((W.setCell ⟨b, 0, none⟩ (.int .i64 i)).setCell ⟨b, 1, none⟩ (.slice D m k)) b t #[.int .i64 i, .slice D m k, .slice A2 n2 c2] := b1.set 1 _
  ⟨hv.l, hv.l', hv.k, hv.k', hv.m, hv.m', rdS_hset b2 _ _ (rdS_hset b1 _ _ (rdS_hset hb _ _ hv.r)), rdS_hset b2 _ _ (rdS_hset b1 _ _ (rdS_hset hb _ _ hv.r')), hv.p⟩
theorem hv_set6 {W : World} {B b b' : Nat} {t : TypeId} {x0 y0 : Int} {A1 A2 E1 E2 : Option Addr} {n1 c1 n2 c2 m1 k1 m2 k2 : Nat} {A A' : Option Addr} {n c n' c' : Nat} {h : HU} (hb : Blk W b t #[.int .i64 x0, .slice A1 n1 c1, .slice A2 n2 c2]) (hb' : Blk W b' t #[.int .i64 y0, .slice E1 m1 k1, .slice E2 m2 k2]) (hne : b ≠ b')
    (i : Int) (D : Option Addr) (m k : Nat) (D' : Option Addr) (m' k' : Nat) (j : Int) (G : Option Addr) (o l : Nat) (G' : Option Addr) (o' l' : Nat) (hv : HV W B A n c A' n' c' h) :
    HV ((((((W.setCell ⟨b, 0, none⟩ (.int .i64 i)).setCell ⟨b, 1, none⟩ (.slice D m k)).setCell ⟨b, 2, none⟩ (.slice D' m' k')).setCell ⟨b', 0, none⟩ (.int .i64 j)).setCell ⟨b', 1, none⟩ (.slice G o l)).setCell ⟨b', 2, none⟩ (.slice G' o' l')) B A n c A' n' c' h :=
  hv_set3 (((hb'.set_ne hne.symm 0 _).set_ne hne.symm 1 _).set_ne hne.symm 2 _) j G o l G' o' l' (hv_set3 hb i D m k D' m' k' hv)

set_option maxHeartbeats 4000000 in
theorem PassHi (A : Option Addr) (n c : Nat) (A' : Option Addr) (n' c' : Nat) (D : Option Addr) (m k : Nat) (D' : Option Addr) (m' k' B : Nat) (p q : HU) (w : World) (hB : B ≤ w.heap.size) (hn : n ≤ 1000) (hn' : n' ≤ 1000) (hm : m ≤ 1000) (hm' : m' ≤ 1000)
    (hv : HV w B A n c A' n' c' p) (gv : HV w B D m k D' m' k' q) :
    Calls Tryz.prog 79 #[hkV p.pos A n c A' n' c', hkV q.pos D m k D' m' k'] w (PassEndH w (passH p q)) := by
  have HV0 := Lib.hid hv; have GV0 := Lib.hid gv
  go_enter Tryz.func79, Tryz.ntmps79
  go_wp2_with fail
  have hw0 : Below w.heap.size w ((((w.alloc (.cells #[.int .i64 p.pos, .slice A n c, .slice A' n' c'] 53)).alloc (.cells #[.int .i64 q.pos, .slice D m k, .slice D' m' k'] 53)).alloc (.cells #[.int .i64 0, .slice none 0 0, .slice none 0 0] 53)).alloc (.cells #[.int .i64 0, .slice none 0 0, .slice none 0 0] 53)) :=
    ((((Below.refl _ _).alloc (Nat.le_refl _) _).alloc (by simp) _).alloc (by simp; omega) _).alloc (by simp; omega) _
  have b0 := (((Blk.new w 53 #[.int .i64 p.pos, .slice A n c, .slice A' n' c']).alloc (.cells #[.int .i64 q.pos, .slice D m k, .slice D' m' k'] 53)).alloc (.cells #[.int .i64 0, .slice none 0 0, .slice none 0 0] 53)).alloc (.cells #[.int .i64 0, .slice none 0 0, .slice none 0 0] 53)
  have b1 := ((Blk.new (w.alloc (.cells #[.int .i64 p.pos, .slice A n c, .slice A' n' c'] 53)) 53 #[.int .i64 q.pos, .slice D m k, .slice D' m' k']).alloc (.cells #[.int .i64 0, .slice none 0 0, .slice none 0 0] 53)).alloc (.cells #[.int .i64 0, .slice none 0 0, .slice none 0 0] 53)
  have b2 := (Blk.new ((w.alloc (.cells #[.int .i64 p.pos, .slice A n c, .slice A' n' c'] 53)).alloc (.cells #[.int .i64 q.pos, .slice D m k, .slice D' m' k'] 53)) 53 #[.int .i64 0, .slice none 0 0, .slice none 0 0]).alloc (.cells #[.int .i64 0, .slice none 0 0, .slice none 0 0] 53)
  have b3 := Blk.new (((w.alloc (.cells #[.int .i64 p.pos, .slice A n c, .slice A' n' c'] 53)).alloc (.cells #[.int .i64 q.pos, .slice D m k, .slice D' m' k'] 53)).alloc (.cells #[.int .i64 0, .slice none 0 0, .slice none 0 0] 53)) 53 #[.int .i64 0, .slice none 0 0, .slice none 0 0]
  simp only [World.size_alloc] at b1 b2 b3
  generalize ((((w.alloc (.cells #[.int .i64 p.pos, .slice A n c, .slice A' n' c'] 53)).alloc (.cells #[.int .i64 q.pos, .slice D m k, .slice D' m' k'] 53)).alloc (.cells #[.int .i64 0, .slice none 0 0, .slice none 0 0] 53)).alloc (.cells #[.int .i64 0, .slice none 0 0, .slice none 0 0] 53)) = w0 at *
  clear hv gv
  obtain ⟨g, hgs⟩ : ∃ g, w.heap.size = g := ⟨_, rfl⟩
  rw [hgs] at hw0 b0 b1 b2 b3 ⊢
  rw [show g + 1 + 1 = g + 2 from rfl] at b2 b3 ⊢
  rw [show g + 2 + 1 = g + 3 from rfl] at b3 ⊢
  have HGS := Lib.hid hgs; clear hgs
  refine (May A n c A' n' c' B p w0 (Nat.le_trans hB hw0.size) (HV0.out.below (hw0.mono (by rw [← HGS.out]; exact hB)))).mono ?_
  rintro e w1 ⟨rfl, h1⟩
  have b0 := b0.below h1 b0.lt; have b1 := b1.below h1 b1.lt; have b2 := b2.below h1 b2.lt; have b3 := b3.below h1 b3.lt
  have hw1 := hw0.trans (h1.mono (by rw [← HGS.out]; exact hw0.size))
  clear h1 hw0
  cases hmp : mayH p with
  | false =>
    have HN := Lib.hid (passH_no1 (q := q) hmp)
    clear hmp
    have q20 : w1.cell? ⟨g + 2, 0, none⟩ = some (.int .i64 0) := b2.cell 0 rfl; have q21 : w1.cell? ⟨g + 2, 1, none⟩ = some (.slice none 0 0) := b2.cell 1 rfl; have q22 : w1.cell? ⟨g + 2, 2, none⟩ = some (.slice none 0 0) := b2.cell 2 rfl
    have q30 : w1.cell? ⟨g + 3, 0, none⟩ = some (.int .i64 0) := b3.cell 0 rfl; have q31 : w1.cell? ⟨g + 3, 1, none⟩ = some (.slice none 0 0) := b3.cell 1 rfl; have q32 : w1.cell? ⟨g + 3, 2, none⟩ = some (.slice none 0 0) := b3.cell 2 rfl
    have f20 := b2.frozen 0; have f21 := b2.frozen 1; have f22 := b2.frozen 2; have f30 := b3.frozen 0; have f31 := b3.frozen 1; have f32 := b3.frozen 2
    go_wp2_with fail
    obtain ⟨z2, z3⟩ := two_set b2 b3 (by omega) (.int .i64 0) (.slice none 0 0) (.slice none 0 0) (.int .i64 0) (.slice none 0 0) (.slice none 0 0)
    have hb6 := below_set6 (b := g + 2) (b' := g + 3) hw1 (by omega) (by omega) (.int .i64 0) (.slice none 0 0) (.slice none 0 0) (.int .i64 0) (.slice none 0 0) (.slice none 0 0)
    generalize (((((World.setCell w1 ⟨g + 2, 0, none⟩ (.int .i64 0)).setCell ⟨g + 2, 1, none⟩ (.slice none 0 0)).setCell ⟨g + 2, 2, none⟩ (.slice none 0 0)).setCell ⟨g + 3, 0, none⟩ (.int .i64 0)).setCell ⟨g + 3, 1, none⟩ (.slice none 0 0)).setCell ⟨g + 3, 2, none⟩ (.slice none 0 0) = W3 at *
    have q20 : W3.cell? ⟨g + 2, 0, none⟩ = some (.int .i64 0) := z2.cell 0 rfl; have q21 : W3.cell? ⟨g + 2, 1, none⟩ = some (.slice none 0 0) := z2.cell 1 rfl; have q22 : W3.cell? ⟨g + 2, 2, none⟩ = some (.slice none 0 0) := z2.cell 2 rfl
    have q30 : W3.cell? ⟨g + 3, 0, none⟩ = some (.int .i64 0) := z3.cell 0 rfl; have q31 : W3.cell? ⟨g + 3, 1, none⟩ = some (.slice none 0 0) := z3.cell 1 rfl; have q32 : W3.cell? ⟨g + 3, 2, none⟩ = some (.slice none 0 0) := z3.cell 2 rfl
    refine bodyPost_ret (v := .tuple #[hkV 0 none 0 0 none 0 0, hkV 0 none 0 0 none 0 0, .bool false]) (by simp [results, Tryz.results79, go_sem, q20, q21, q22, q30, q31, q32]) rfl ?_
    exact passEndH_none HN.out (by rw [HGS.out]; exact hb6)
  | true =>
  have HMP := Lib.hid hmp; clear hmp
  have y0 : w1.cell? ⟨g + 1, 0, none⟩ = some (.int .i64 q.pos) := b1.cell 0 rfl; have y1 : w1.cell? ⟨g + 1, 1, none⟩ = some (.slice D m k) := b1.cell 1 rfl; have y2 : w1.cell? ⟨g + 1, 2, none⟩ = some (.slice D' m' k') := b1.cell 2 rfl
  go_wp2_with fail
  refine (May D m k D' m' k' B q w1 (Nat.le_trans hB hw1.size) (GV0.out.below (hw1.mono (by rw [← HGS.out]; exact hB)))).mono ?_
  rintro e w2 ⟨rfl, h1⟩
  clear y0 y1 y2
  have b0 := b0.below h1 b0.lt; have b1 := b1.below h1 b1.lt; have b2 := b2.below h1 b2.lt; have b3 := b3.below h1 b3.lt
  have hw2 := hw1.trans (h1.mono (by rw [← HGS.out]; exact hw1.size))
  clear h1 hw1
  cases hmq : mayH q with
  | false =>
    have HN := Lib.hid (passH_no2 (p := p) hmq)
    clear hmq
    have q20 : w2.cell? ⟨g + 2, 0, none⟩ = some (.int .i64 0) := b2.cell 0 rfl; have q21 : w2.cell? ⟨g + 2, 1, none⟩ = some (.slice none 0 0) := b2.cell 1 rfl; have q22 : w2.cell? ⟨g + 2, 2, none⟩ = some (.slice none 0 0) := b2.cell 2 rfl
    have q30 : w2.cell? ⟨g + 3, 0, none⟩ = some (.int .i64 0) := b3.cell 0 rfl; have q31 : w2.cell? ⟨g + 3, 1, none⟩ = some (.slice none 0 0) := b3.cell 1 rfl; have q32 : w2.cell? ⟨g + 3, 2, none⟩ = some (.slice none 0 0) := b3.cell 2 rfl
    have f20 := b2.frozen 0; have f21 := b2.frozen 1; have f22 := b2.frozen 2; have f30 := b3.frozen 0; have f31 := b3.frozen 1; have f32 := b3.frozen 2
    go_wp2_with fail
    obtain ⟨z2, z3⟩ := two_set b2 b3 (by omega) (.int .i64 0) (.slice none 0 0) (.slice none 0 0) (.int .i64 0) (.slice none 0 0) (.slice none 0 0)
    have hb6 := below_set6 (b := g + 2) (b' := g + 3) hw2 (by omega) (by omega) (.int .i64 0) (.slice none 0 0) (.slice none 0 0) (.int .i64 0) (.slice none 0 0) (.slice none 0 0)
    generalize (((((World.setCell w2 ⟨g + 2, 0, none⟩ (.int .i64 0)).setCell ⟨g + 2, 1, none⟩ (.slice none 0 0)).setCell ⟨g + 2, 2, none⟩ (.slice none 0 0)).setCell ⟨g + 3, 0, none⟩ (.int .i64 0)).setCell ⟨g + 3, 1, none⟩ (.slice none 0 0)).setCell ⟨g + 3, 2, none⟩ (.slice none 0 0) = W3 at *
    have q20 : W3.cell? ⟨g + 2, 0, none⟩ = some (.int .i64 0) := z2.cell 0 rfl; have q21 : W3.cell? ⟨g + 2, 1, none⟩ = some (.slice none 0 0) := z2.cell 1 rfl; have q22 : W3.cell? ⟨g + 2, 2, none⟩ = some (.slice none 0 0) := z2.cell 2 rfl
    have q30 : W3.cell? ⟨g + 3, 0, none⟩ = some (.int .i64 0) := z3.cell 0 rfl; have q31 : W3.cell? ⟨g + 3, 1, none⟩ = some (.slice none 0 0) := z3.cell 1 rfl; have q32 : W3.cell? ⟨g + 3, 2, none⟩ = some (.slice none 0 0) := z3.cell 2 rfl
    refine bodyPost_ret (v := .tuple #[hkV 0 none 0 0 none 0 0, hkV 0 none 0 0 none 0 0, .bool false]) (by simp [results, Tryz.results79, go_sem, q20, q21, q22, q30, q31, q32]) rfl ?_
    exact passEndH_none HN.out (by rw [HGS.out]; exact hb6)
  | true =>
  have HMQ := Lib.hid hmq; clear hmq
  have x0 : w2.cell? ⟨g, 0, none⟩ = some (.int .i64 p.pos) := b0.cell 0 rfl; have x1 : w2.cell? ⟨g, 1, none⟩ = some (.slice A n c) := b0.cell 1 rfl; have x2 : w2.cell? ⟨g, 2, none⟩ = some (.slice A' n' c') := b0.cell 2 rfl
  have y0 : w2.cell? ⟨g + 1, 0, none⟩ = some (.int .i64 q.pos) := b1.cell 0 rfl; have y1 : w2.cell? ⟨g + 1, 1, none⟩ = some (.slice D m k) := b1.cell 1 rfl; have y2 : w2.cell? ⟨g + 1, 2, none⟩ = some (.slice D' m' k') := b1.cell 2 rfl
  go_wp2_with fail
  refine (ways A n c A' n' c' D m k D' m' k' p.pos q.pos w2).mono ?_
  rintro e w3 ⟨rfl, r0, r1, r2, h1⟩
  clear x0 x1 x2 y0 y1 y2
  have b0 := b0.below h1 b0.lt; have b1 := b1.below h1 b1.lt; have b2 := b2.below h1 b2.lt; have b3 := b3.below h1 b3.lt
  have hw3 := hw2.trans (h1.mono (by rw [← HGS.out]; exact hw2.size))
  clear h1 hw2
  generalize w2.heap.size = u at *
  go_wp2_with fail
  have HB0 := Lib.hid b0; have HB1 := Lib.hid b1; have HB2 := Lib.hid b2; have HB3 := Lib.hid b3; have HR0 := Lib.hid r0; have HR1 := Lib.hid r1; have HR2 := Lib.hid r2; have HW3 := Lib.hid hw3
  clear b0 b1 b2 b3 r0 r1 r2 hw3
  have PB0 := Lib.hid (mayH_pos HMP.out); have PB1 := Lib.hid (mayH_pos HMQ.out)
  go_loopw [26] (fun i wr => ∃ d, wr = w3.drewN d ∧ (i = .int .i64 0 ∨ (i = .int .i64 1 ∧ Shut1 p q n n') ∨ (i = .int .i64 2 ∧ Shut1 p q n n' ∧ Shut2 p q m m'))) (fun i _ => 2 - (intOf i).toNat)
  case atStart => exact ⟨0, rfl, .inl rfl⟩
  case round =>
    obtain ⟨d, rfl, rfl | ⟨rfl, hs1⟩ | ⟨rfl, hs1, hs2⟩⟩ := hrel
    · have row0 : (w3.drewN d).cell? ⟨u + 2, 0, none⟩ = some (wayV 131 u (u + 1)) := HR2.out.cell 0 rfl
      go_wp2_with fail
      refine (way1 u (u + 1) A n c A' n' c' D m k D' m' k' p.pos q.pos (w3.drewN d) PB0.out.1 PB0.out.2 PB1.out.1 PB1.out.2 hn hn' hm hm' HR0.out HR1.out).mono ?_
      rintro e w4 ⟨rfl, d1, rfl⟩
      clear row0
      by_cases o1 : p.pos + n' < q.pos
      · rw [decide_eq_true o1]
        by_cases o2 : q.pos - n' + n ≤ 1048576
        · have HN := Lib.hid (passH_open1 HV0.out.l HV0.out.l' HMP.out HMQ.out o1 o2 PB0.out.2)
          have HI := Lib.hid (show I64 (q.pos - n' + n) from ⟨by have := PB1.out.1; omega, by omega⟩)
          have HJ := Lib.hid (show I64 (p.pos) from HV0.out.p)
          have o3 := PB0.out.2
          obtain ⟨w4, hw4⟩ : ∃ w4, w4 = (w3.drewN d).drewN d1 := ⟨_, rfl⟩
          rw [← hw4]
          have c0 : Blk w4 g 53 #[.int .i64 p.pos, .slice A n c, .slice A' n' c'] := by rw [hw4]; exact HB0.out
          have c1 : Blk w4 (g + 1) 53 #[.int .i64 q.pos, .slice D m k, .slice D' m' k'] := by rw [hw4]; exact HB1.out
          have c2 : Blk w4 (g + 2) 53 #[.int .i64 0, .slice none 0 0, .slice none 0 0] := by rw [hw4]; exact HB2.out
          have c3 : Blk w4 (g + 3) 53 #[.int .i64 0, .slice none 0 0, .slice none 0 0] := by rw [hw4]; exact HB3.out
          have hw4' : Below g w w4 := by rw [hw4]; exact below_drewN (below_drewN HW3.out d) d1
          have hle : B ≤ w4.heap.size := Nat.le_trans hB hw4'.size
          have hgp : ∀ W, Below w4.heap.size w4 W → HV W B A n c A' n' c' p := fun W hb => (HV0.out.below (hw4'.mono (by rw [← HGS.out]; exact hB))).below (hb.mono hle)
          have hgq : ∀ W, Below w4.heap.size w4 W → HV W B D m k D' m' k' q := fun W hb => (GV0.out.below (hw4'.mono (by rw [← HGS.out]; exact hB))).below (hb.mono hle)
          have C0 := Lib.hid c0; have C1 := Lib.hid c1; have C2 := Lib.hid c2; have C3 := Lib.hid c3; have HW4 := Lib.hid hw4'
          have PP : Hid (∀ W, Below w4.heap.size w4 W → Calls Tryz.prog 111 #[hkV p.pos A n c A' n' c', .int .i64 (p.pos)] W (fun e u' => ∃ P p1 Q q1, e = .returned (hkV (p.pos) P n p1 Q n' q1) ∧ HV u' u'.heap.size P n p1 Q n' q1 (at_ p (p.pos)) ∧ (Hi W.heap.size P ∧ Hi W.heap.size Q) ∧ Below W.heap.size W u')) := Lib.hid (fun W hb => placed A n c A' n' c' B p (p.pos) W (Nat.le_trans hle hb.size) hn hn' (hgp W hb) HJ.out)
          have PQ : Hid (∀ W, Below w4.heap.size w4 W → Calls Tryz.prog 111 #[hkV q.pos D m k D' m' k', .int .i64 (q.pos - n' + n)] W (fun e u' => ∃ P p1 Q q1, e = .returned (hkV (q.pos - n' + n) P m p1 Q m' q1) ∧ HV u' u'.heap.size P m p1 Q m' q1 (at_ q (q.pos - n' + n)) ∧ (Hi W.heap.size P ∧ Hi W.heap.size Q) ∧ Below W.heap.size W u')) := Lib.hid (fun W hb => placed D m k D' m' k' B q (q.pos - n' + n) W (Nat.le_trans hle hb.size) hm hm' (hgq W hb) HI.out)
          have HC : Hid (∀ W, Below w4.heap.size w4 W → W.cell? ⟨g, 0, none⟩ = some (.int .i64 p.pos) ∧ W.cell? ⟨g, 1, none⟩ = some (.slice A n c) ∧ W.cell? ⟨g, 2, none⟩ = some (.slice A' n' c') ∧ W.cell? ⟨g + 1, 0, none⟩ = some (.int .i64 q.pos) ∧ W.cell? ⟨g + 1, 1, none⟩ = some (.slice D m k) ∧ W.cell? ⟨g + 1, 2, none⟩ = some (.slice D' m' k')) := Lib.hid (fun W hb => by
            have b := C0.out.below hb C0.out.lt
            have b' := C1.out.below hb C1.out.lt
            exact ⟨b.cell 0 rfl, b.cell 1 rfl, b.cell 2 rfl, b'.cell 0 rfl, b'.cell 1 rfl, b'.cell 2 rfl⟩)
          clear c0 c1 c2 c3 hw4 hw4' hgp hgq hle
          obtain ⟨x0, x1, x2, y0, y1, y2⟩ := HC.out w4 (Below.refl _ _)
          go_wp2_with fail
          go_region_held3 (fun W => W.cell? ⟨g, 0, none⟩ = some (.int .i64 p.pos) ∧ W.cell? ⟨g, 1, none⟩ = some (.slice A n c) ∧ W.cell? ⟨g, 2, none⟩ = some (.slice A' n' c') ∧ W.cell? ⟨g + 1, 0, none⟩ = some (.int .i64 q.pos) ∧ W.cell? ⟨g + 1, 1, none⟩ = some (.slice D m k) ∧ W.cell? ⟨g + 1, 2, none⟩ = some (.slice D' m' k'))
            (first | go_keep | (exact hS5) | (exact hS6))
            (first
              | (go_at_call 111; (with_reducible refine (PQ.out w4.drew (below_drewN (Below.refl _ _) 1)).mono ?_); rintro e w5 ⟨P5, p5, Q5, q5, rfl, hv, hh, hb⟩; have HH5 := Lib.hid hh; clear hh; have hbu := (below_drewN (Below.refl w4.heap.size w4) 1).trans hb; have hS5 := HC.out w5 hbu; have HU5 := Lib.hid hbu; have HV5 := Lib.hid hv; clear hb hbu hv)
              | (go_at_call 111; (with_reducible refine (PP.out w5 HU5.out).mono ?_); rintro e w6 ⟨P6, p6, Q6, q6, rfl, hv, hh, hb⟩; have HH6 := Lib.hid hh; clear hh; have hbu := HU5.out.trans (hb.mono HU5.out.size); have hS6 := HC.out w6 hbu; have HU6 := Lib.hid hbu; have HV6 := Lib.hid hv; have HB6 := Lib.hid hb;
                  have b2 := C2.out.below hbu C2.out.lt; have b3 := C3.out.below hbu C3.out.lt;
                  have q20 : w6.cell? ⟨g + 2, 0, none⟩ = some (.int .i64 0) := b2.cell 0 rfl; have q21 : w6.cell? ⟨g + 2, 1, none⟩ = some (.slice none 0 0) := b2.cell 1 rfl; have q22 : w6.cell? ⟨g + 2, 2, none⟩ = some (.slice none 0 0) := b2.cell 2 rfl;
                  have q30 : w6.cell? ⟨g + 3, 0, none⟩ = some (.int .i64 0) := b3.cell 0 rfl; have q31 : w6.cell? ⟨g + 3, 1, none⟩ = some (.slice none 0 0) := b3.cell 1 rfl; have q32 : w6.cell? ⟨g + 3, 2, none⟩ = some (.slice none 0 0) := b3.cell 2 rfl;
                  have f20 := b2.frozen 0; have f21 := b2.frozen 1; have f22 := b2.frozen 2; have f30 := b3.frozen 0; have f31 := b3.frozen 1; have f32 := b3.frozen 2;
                  have Z2 := Lib.hid b2; have Z3 := Lib.hid b3; clear hb hbu hv b2 b3))
          go_wp2_with fail
          have v5 := hv_set6 Z2.out Z3.out (by omega) (q.pos - n' + n) P5 m p5 Q5 m' q5 (p.pos) P6 n p6 Q6 n' q6 ((HV5.out.below HB6.out).up HB6.out.size)
          have v6 := hv_set6 Z2.out Z3.out (by omega) (q.pos - n' + n) P5 m p5 Q5 m' q5 (p.pos) P6 n p6 Q6 n' q6 HV6.out
          obtain ⟨z2, z3⟩ := two_set Z2.out Z3.out (by omega) (.int .i64 (q.pos - n' + n)) (.slice P5 m p5) (.slice Q5 m' q5) (.int .i64 (p.pos)) (.slice P6 n p6) (.slice Q6 n' q6)
          have hb6 := below_set6 (b := g + 2) (b' := g + 3) (HW4.out.trans (HU6.out.mono (by rw [← HGS.out]; exact HW4.out.size))) (by omega) (by omega) (.int .i64 (q.pos - n' + n)) (.slice P5 m p5) (.slice Q5 m' q5) (.int .i64 (p.pos)) (.slice P6 n p6) (.slice Q6 n' q6)
          have hsz := (below_set6 (b := g + 2) (b' := g + 3) (Below.refl 0 w6) (by omega) (by omega) (.int .i64 (q.pos - n' + n)) (.slice P5 m p5) (.slice Q5 m' q5) (.int .i64 (p.pos)) (.slice P6 n p6) (.slice Q6 n' q6)).size
          generalize (((((World.setCell w6 ⟨g + 2, 0, none⟩ (.int .i64 (q.pos - n' + n))).setCell ⟨g + 2, 1, none⟩ (.slice P5 m p5)).setCell ⟨g + 2, 2, none⟩ (.slice Q5 m' q5)).setCell ⟨g + 3, 0, none⟩ (.int .i64 (p.pos))).setCell ⟨g + 3, 1, none⟩ (.slice P6 n p6)).setCell ⟨g + 3, 2, none⟩ (.slice Q6 n' q6) = W3 at *
          clear q20 q21 q22 q30 q31 q32
          have q20 : W3.cell? ⟨g + 2, 0, none⟩ = some (.int .i64 (q.pos - n' + n)) := z2.cell 0 rfl; have q21 : W3.cell? ⟨g + 2, 1, none⟩ = some (.slice P5 m p5) := z2.cell 1 rfl; have q22 : W3.cell? ⟨g + 2, 2, none⟩ = some (.slice Q5 m' q5) := z2.cell 2 rfl
          have q30 : W3.cell? ⟨g + 3, 0, none⟩ = some (.int .i64 (p.pos)) := z3.cell 0 rfl; have q31 : W3.cell? ⟨g + 3, 1, none⟩ = some (.slice P6 n p6) := z3.cell 1 rfl; have q32 : W3.cell? ⟨g + 3, 2, none⟩ = some (.slice Q6 n' q6) := z3.cell 2 rfl
          refine bodyPost_ret (v := .tuple #[hkV (q.pos - n' + n) P5 m p5 Q5 m' q5, hkV (p.pos) P6 n p6 Q6 n' q6, .bool true]) (by simp [results, Tryz.results79, go_sem, q20, q21, q22, q30, q31, q32]) rfl ?_
          rw [HN.out]
          exact ⟨P5, m, p5, Q5, m', q5, P6, n, p6, Q6, n', q6, rfl, v5.up hsz, v6.up hsz, (by
            have l4 := HW4.out.size
            have l5 : w4.heap.size ≤ w5.heap.size := HU5.out.size
            rw [HGS.out] at l4 ⊢
            exact ⟨HH5.out.1.mono (show g ≤ w4.drew.heap.size from l4), HH5.out.2.mono (show g ≤ w4.drew.heap.size from l4), HH6.out.1.mono (Nat.le_trans l4 l5), HH6.out.2.mono (Nat.le_trans l4 l5)⟩), by rw [HGS.out]; exact hb6⟩
        · have hs : Shut1 p q n n' := fun h => o2 h.2.1
          go_wp2_with fail
          exact ⟨⟨_, rfl, .inr (.inl ⟨rfl, hs⟩)⟩, by simp [intOf]⟩
      · rw [decide_eq_false o1]
        have hs : Shut1 p q n n' := fun h => o1 h.1
        go_wp2_with fail
        exact ⟨⟨_, rfl, .inr (.inl ⟨rfl, hs⟩)⟩, by simp [intOf]⟩
    · have HS1 := Lib.hid hs1; clear hs1
      have row1 : (w3.drewN d).cell? ⟨u + 2, 1, none⟩ = some (wayV 132 u (u + 1)) := HR2.out.cell 1 rfl
      go_wp2_with fail
      refine (way2 u (u + 1) A n c A' n' c' D m k D' m' k' p.pos q.pos (w3.drewN d) PB0.out.1 PB0.out.2 PB1.out.1 PB1.out.2 hn hn' hm hm' HR0.out HR1.out).mono ?_
      rintro e w4 ⟨rfl, d1, rfl⟩
      clear row1
      by_cases o1 : q.pos + m < p.pos
      · rw [decide_eq_true o1]
        by_cases o2 : p.pos - m + m' ≤ 1048576
        · have HN := Lib.hid (passH_open2 GV0.out.l GV0.out.l' HMP.out HMQ.out o1 PB1.out.2 o2)
          have HI := Lib.hid (show I64 (q.pos) from GV0.out.p)
          have HJ := Lib.hid (show I64 (p.pos - m + m') from ⟨by have := PB0.out.1; omega, by omega⟩)
          have o3 := PB1.out.2
          obtain ⟨w4, hw4⟩ : ∃ w4, w4 = (w3.drewN d).drewN d1 := ⟨_, rfl⟩
          rw [← hw4]
          have c0 : Blk w4 g 53 #[.int .i64 p.pos, .slice A n c, .slice A' n' c'] := by rw [hw4]; exact HB0.out
          have c1 : Blk w4 (g + 1) 53 #[.int .i64 q.pos, .slice D m k, .slice D' m' k'] := by rw [hw4]; exact HB1.out
          have c2 : Blk w4 (g + 2) 53 #[.int .i64 0, .slice none 0 0, .slice none 0 0] := by rw [hw4]; exact HB2.out
          have c3 : Blk w4 (g + 3) 53 #[.int .i64 0, .slice none 0 0, .slice none 0 0] := by rw [hw4]; exact HB3.out
          have hw4' : Below g w w4 := by rw [hw4]; exact below_drewN (below_drewN HW3.out d) d1
          have hle : B ≤ w4.heap.size := Nat.le_trans hB hw4'.size
          have hgp : ∀ W, Below w4.heap.size w4 W → HV W B A n c A' n' c' p := fun W hb => (HV0.out.below (hw4'.mono (by rw [← HGS.out]; exact hB))).below (hb.mono hle)
          have hgq : ∀ W, Below w4.heap.size w4 W → HV W B D m k D' m' k' q := fun W hb => (GV0.out.below (hw4'.mono (by rw [← HGS.out]; exact hB))).below (hb.mono hle)
          have C0 := Lib.hid c0; have C1 := Lib.hid c1; have C2 := Lib.hid c2; have C3 := Lib.hid c3; have HW4 := Lib.hid hw4'
          have PP : Hid (∀ W, Below w4.heap.size w4 W → Calls Tryz.prog 111 #[hkV p.pos A n c A' n' c', .int .i64 (p.pos - m + m')] W (fun e u' => ∃ P p1 Q q1, e = .returned (hkV (p.pos - m + m') P n p1 Q n' q1) ∧ HV u' u'.heap.size P n p1 Q n' q1 (at_ p (p.pos - m + m')) ∧ (Hi W.heap.size P ∧ Hi W.heap.size Q) ∧ Below W.heap.size W u')) := Lib.hid (fun W hb => placed A n c A' n' c' B p (p.pos - m + m') W (Nat.le_trans hle hb.size) hn hn' (hgp W hb) HJ.out)
          have PQ : Hid (∀ W, Below w4.heap.size w4 W → Calls Tryz.prog 111 #[hkV q.pos D m k D' m' k', .int .i64 (q.pos)] W (fun e u' => ∃ P p1 Q q1, e = .returned (hkV (q.pos) P m p1 Q m' q1) ∧ HV u' u'.heap.size P m p1 Q m' q1 (at_ q (q.pos)) ∧ (Hi W.heap.size P ∧ Hi W.heap.size Q) ∧ Below W.heap.size W u')) := Lib.hid (fun W hb => placed D m k D' m' k' B q (q.pos) W (Nat.le_trans hle hb.size) hm hm' (hgq W hb) HI.out)
          have HC : Hid (∀ W, Below w4.heap.size w4 W → W.cell? ⟨g, 0, none⟩ = some (.int .i64 p.pos) ∧ W.cell? ⟨g, 1, none⟩ = some (.slice A n c) ∧ W.cell? ⟨g, 2, none⟩ = some (.slice A' n' c') ∧ W.cell? ⟨g + 1, 0, none⟩ = some (.int .i64 q.pos) ∧ W.cell? ⟨g + 1, 1, none⟩ = some (.slice D m k) ∧ W.cell? ⟨g + 1, 2, none⟩ = some (.slice D' m' k')) := Lib.hid (fun W hb => by
            have b := C0.out.below hb C0.out.lt
            have b' := C1.out.below hb C1.out.lt
            exact ⟨b.cell 0 rfl, b.cell 1 rfl, b.cell 2 rfl, b'.cell 0 rfl, b'.cell 1 rfl, b'.cell 2 rfl⟩)
          clear c0 c1 c2 c3 hw4 hw4' hgp hgq hle
          obtain ⟨x0, x1, x2, y0, y1, y2⟩ := HC.out w4 (Below.refl _ _)
          go_wp2_with fail
          go_region_held3 (fun W => W.cell? ⟨g, 0, none⟩ = some (.int .i64 p.pos) ∧ W.cell? ⟨g, 1, none⟩ = some (.slice A n c) ∧ W.cell? ⟨g, 2, none⟩ = some (.slice A' n' c') ∧ W.cell? ⟨g + 1, 0, none⟩ = some (.int .i64 q.pos) ∧ W.cell? ⟨g + 1, 1, none⟩ = some (.slice D m k) ∧ W.cell? ⟨g + 1, 2, none⟩ = some (.slice D' m' k'))
            (first | go_keep | (exact hS5) | (exact hS6))
            (first
              | (go_at_call 111; (with_reducible refine (PQ.out w4.drew (below_drewN (Below.refl _ _) 1)).mono ?_); rintro e w5 ⟨P5, p5, Q5, q5, rfl, hv, hh, hb⟩; have HH5 := Lib.hid hh; clear hh; have hbu := (below_drewN (Below.refl w4.heap.size w4) 1).trans hb; have hS5 := HC.out w5 hbu; have HU5 := Lib.hid hbu; have HV5 := Lib.hid hv; clear hb hbu hv)
              | (go_at_call 111; (with_reducible refine (PP.out w5 HU5.out).mono ?_); rintro e w6 ⟨P6, p6, Q6, q6, rfl, hv, hh, hb⟩; have HH6 := Lib.hid hh; clear hh; have hbu := HU5.out.trans (hb.mono HU5.out.size); have hS6 := HC.out w6 hbu; have HU6 := Lib.hid hbu; have HV6 := Lib.hid hv; have HB6 := Lib.hid hb;
                  have b2 := C2.out.below hbu C2.out.lt; have b3 := C3.out.below hbu C3.out.lt;
                  have q20 : w6.cell? ⟨g + 2, 0, none⟩ = some (.int .i64 0) := b2.cell 0 rfl; have q21 : w6.cell? ⟨g + 2, 1, none⟩ = some (.slice none 0 0) := b2.cell 1 rfl; have q22 : w6.cell? ⟨g + 2, 2, none⟩ = some (.slice none 0 0) := b2.cell 2 rfl;
                  have q30 : w6.cell? ⟨g + 3, 0, none⟩ = some (.int .i64 0) := b3.cell 0 rfl; have q31 : w6.cell? ⟨g + 3, 1, none⟩ = some (.slice none 0 0) := b3.cell 1 rfl; have q32 : w6.cell? ⟨g + 3, 2, none⟩ = some (.slice none 0 0) := b3.cell 2 rfl;
                  have f20 := b2.frozen 0; have f21 := b2.frozen 1; have f22 := b2.frozen 2; have f30 := b3.frozen 0; have f31 := b3.frozen 1; have f32 := b3.frozen 2;
                  have Z2 := Lib.hid b2; have Z3 := Lib.hid b3; clear hb hbu hv b2 b3))
          go_wp2_with fail
          have v5 := hv_set6 Z2.out Z3.out (by omega) (q.pos) P5 m p5 Q5 m' q5 (p.pos - m + m') P6 n p6 Q6 n' q6 ((HV5.out.below HB6.out).up HB6.out.size)
          have v6 := hv_set6 Z2.out Z3.out (by omega) (q.pos) P5 m p5 Q5 m' q5 (p.pos - m + m') P6 n p6 Q6 n' q6 HV6.out
          obtain ⟨z2, z3⟩ := two_set Z2.out Z3.out (by omega) (.int .i64 (q.pos)) (.slice P5 m p5) (.slice Q5 m' q5) (.int .i64 (p.pos - m + m')) (.slice P6 n p6) (.slice Q6 n' q6)
          have hb6 := below_set6 (b := g + 2) (b' := g + 3) (HW4.out.trans (HU6.out.mono (by rw [← HGS.out]; exact HW4.out.size))) (by omega) (by omega) (.int .i64 (q.pos)) (.slice P5 m p5) (.slice Q5 m' q5) (.int .i64 (p.pos - m + m')) (.slice P6 n p6) (.slice Q6 n' q6)
          have hsz := (below_set6 (b := g + 2) (b' := g + 3) (Below.refl 0 w6) (by omega) (by omega) (.int .i64 (q.pos)) (.slice P5 m p5) (.slice Q5 m' q5) (.int .i64 (p.pos - m + m')) (.slice P6 n p6) (.slice Q6 n' q6)).size
          generalize (((((World.setCell w6 ⟨g + 2, 0, none⟩ (.int .i64 (q.pos))).setCell ⟨g + 2, 1, none⟩ (.slice P5 m p5)).setCell ⟨g + 2, 2, none⟩ (.slice Q5 m' q5)).setCell ⟨g + 3, 0, none⟩ (.int .i64 (p.pos - m + m'))).setCell ⟨g + 3, 1, none⟩ (.slice P6 n p6)).setCell ⟨g + 3, 2, none⟩ (.slice Q6 n' q6) = W3 at *
          clear q20 q21 q22 q30 q31 q32
          have q20 : W3.cell? ⟨g + 2, 0, none⟩ = some (.int .i64 (q.pos)) := z2.cell 0 rfl; have q21 : W3.cell? ⟨g + 2, 1, none⟩ = some (.slice P5 m p5) := z2.cell 1 rfl; have q22 : W3.cell? ⟨g + 2, 2, none⟩ = some (.slice Q5 m' q5) := z2.cell 2 rfl
          have q30 : W3.cell? ⟨g + 3, 0, none⟩ = some (.int .i64 (p.pos - m + m')) := z3.cell 0 rfl; have q31 : W3.cell? ⟨g + 3, 1, none⟩ = some (.slice P6 n p6) := z3.cell 1 rfl; have q32 : W3.cell? ⟨g + 3, 2, none⟩ = some (.slice Q6 n' q6) := z3.cell 2 rfl
          refine bodyPost_ret (v := .tuple #[hkV (q.pos) P5 m p5 Q5 m' q5, hkV (p.pos - m + m') P6 n p6 Q6 n' q6, .bool true]) (by simp [results, Tryz.results79, go_sem, q20, q21, q22, q30, q31, q32]) rfl ?_
          rw [HN.out]
          exact ⟨P5, m, p5, Q5, m', q5, P6, n, p6, Q6, n', q6, rfl, v5.up hsz, v6.up hsz, (by
            have l4 := HW4.out.size
            have l5 : w4.heap.size ≤ w5.heap.size := HU5.out.size
            rw [HGS.out] at l4 ⊢
            exact ⟨HH5.out.1.mono (show g ≤ w4.drew.heap.size from l4), HH5.out.2.mono (show g ≤ w4.drew.heap.size from l4), HH6.out.1.mono (Nat.le_trans l4 l5), HH6.out.2.mono (Nat.le_trans l4 l5)⟩), by rw [HGS.out]; exact hb6⟩
        · have hs : Shut2 p q m m' := fun h => o2 h.2.2
          have o3 := PB1.out.2
          go_wp2_with fail
          exact ⟨⟨_, rfl, .inr (.inr ⟨rfl, HS1.out, hs⟩)⟩, by simp [intOf]⟩
      · rw [decide_eq_false o1]
        have hs : Shut2 p q m m' := fun h => o1 h.1
        go_wp2_with fail
        exact ⟨⟨_, rfl, .inr (.inr ⟨rfl, HS1.out, hs⟩)⟩, by simp [intOf]⟩
    · have HN := Lib.hid (passH_shut HV0.out.l HV0.out.l' GV0.out.l GV0.out.l' hs1 hs2)
      clear hs1 hs2
      have b2 := HB2.out.drewN d; have b3 := HB3.out.drewN d
      have q20 : (w3.drewN d).cell? ⟨g + 2, 0, none⟩ = some (.int .i64 0) := b2.cell 0 rfl; have q21 : (w3.drewN d).cell? ⟨g + 2, 1, none⟩ = some (.slice none 0 0) := b2.cell 1 rfl; have q22 : (w3.drewN d).cell? ⟨g + 2, 2, none⟩ = some (.slice none 0 0) := b2.cell 2 rfl
      have q30 : (w3.drewN d).cell? ⟨g + 3, 0, none⟩ = some (.int .i64 0) := b3.cell 0 rfl; have q31 : (w3.drewN d).cell? ⟨g + 3, 1, none⟩ = some (.slice none 0 0) := b3.cell 1 rfl; have q32 : (w3.drewN d).cell? ⟨g + 3, 2, none⟩ = some (.slice none 0 0) := b3.cell 2 rfl
      have f20 := b2.frozen 0; have f21 := b2.frozen 1; have f22 := b2.frozen 2; have f30 := b3.frozen 0; have f31 := b3.frozen 1; have f32 := b3.frozen 2
      go_wp2_with fail
      obtain ⟨z2, z3⟩ := two_set b2 b3 (by omega) (.int .i64 0) (.slice none 0 0) (.slice none 0 0) (.int .i64 0) (.slice none 0 0) (.slice none 0 0)
      have hb6 := below_set6 (b := g + 2) (b' := g + 3) (below_drewN HW3.out d) (by omega) (by omega) (.int .i64 0) (.slice none 0 0) (.slice none 0 0) (.int .i64 0) (.slice none 0 0) (.slice none 0 0)
      generalize (((((World.setCell (w3.drewN d) ⟨g + 2, 0, none⟩ (.int .i64 0)).setCell ⟨g + 2, 1, none⟩ (.slice none 0 0)).setCell ⟨g + 2, 2, none⟩ (.slice none 0 0)).setCell ⟨g + 3, 0, none⟩ (.int .i64 0)).setCell ⟨g + 3, 1, none⟩ (.slice none 0 0)).setCell ⟨g + 3, 2, none⟩ (.slice none 0 0) = W3 at *
      have q20 : W3.cell? ⟨g + 2, 0, none⟩ = some (.int .i64 0) := z2.cell 0 rfl; have q21 : W3.cell? ⟨g + 2, 1, none⟩ = some (.slice none 0 0) := z2.cell 1 rfl; have q22 : W3.cell? ⟨g + 2, 2, none⟩ = some (.slice none 0 0) := z2.cell 2 rfl
      have q30 : W3.cell? ⟨g + 3, 0, none⟩ = some (.int .i64 0) := z3.cell 0 rfl; have q31 : W3.cell? ⟨g + 3, 1, none⟩ = some (.slice none 0 0) := z3.cell 1 rfl; have q32 : W3.cell? ⟨g + 3, 2, none⟩ = some (.slice none 0 0) := z3.cell 2 rfl
      refine bodyPost_ret (v := .tuple #[hkV 0 none 0 0 none 0 0, hkV 0 none 0 0 none 0 0, .bool false]) (by simp [results, Tryz.results79, go_sem, q20, q21, q22, q30, q31, q32]) rfl ?_
      exact passEndH_none HN.out (by rw [HGS.out]; exact hb6)

end Sw
end Go.Proofs.YtfnhjflocfmcoaaGreat

namespace Go.Proofs.YtfnhjflocfmcoaaGreat
open Go.RowKit
set_option linter.unusedVariables false
namespace Sw
open Tx Df Sq Hk

theorem mayH_moved {g h : HU} (hm : mayH g = true) (ho : h.old = g.old) (hn : h.new = g.new) (h0 : 0 ≤ h.pos) (h1 : h.pos ≤ 1048576) : mayH h = true := by
  unfold mayH at hm ⊢
  rw [ho, hn]
  simp only [Bool.and_eq_true, decide_eq_true_eq] at hm ⊢
  exact ⟨⟨h0, h1⟩, hm.2⟩
/-- What passed may be. -/
theorem passH_mays {p q x y : HU} (h : passH p q = some (x, y)) : mayH x = true ∧ mayH y = true := by
  obtain ⟨h1, h2, h3, h4, h5⟩ := passH_may h
  obtain ⟨a1, a2⟩ := pass_pos (x := x) (y := y) h3 (mayH_pos h1).1 (mayH_pos h2).1
  obtain ⟨_, b1, b2, b3, b4⟩ := pass_moves (x := x) (y := y) h3
  exact ⟨mayH_moved h2 b1 b2 a1 h4, mayH_moved h1 b3 b4 a2 h5⟩
/-- Where both change a list, those that are told do so, to the same. -/
theorem passH_same {l : List (List UInt8)} {p q x y : HU} (h : passH p q = some (x, y)) (h1 : applyE l p = 0) (h2 : applyE (applyL l p) q = 0) : applyE l x = 0 ∧ applyE (applyL l x) y = 0 ∧ applyL (applyL l x) y = applyL (applyL l p) q := by
  obtain ⟨m1, m2⟩ := passH_mays h
  obtain ⟨k, e1, e2⟩ := pass_same (passH_may h).2.2.1 (apply_done h1) (apply_done h2)
  obtain ⟨a1, a2⟩ := done_apply m1 e1
  subst a2
  obtain ⟨b1, b2⟩ := done_apply m2 e2
  exact ⟨a1, b1, b2⟩
end Sw
end Go.Proofs.YtfnhjflocfmcoaaGreat

set_option maxRecDepth 100000
namespace Go.Proofs.YtfnhjflocfmcoaaGreat
namespace Pr
open Tx Sq Hk Tr
set_option linter.unusedVariables false

/-- Two name no file both. -/
structure Apart (p q : Ch) : Prop where
  nn : p.nm ≠ q.nm
  tn : p.k = 2 → p.to ≠ q.nm
  nt : q.k = 2 → p.nm ≠ q.to
  tt : p.k = 2 → q.k = 2 → p.to ≠ q.to
theorem Apart.symm {p q : Ch} (h : Apart p q) : Apart q p := ⟨h.nn.symm, fun hk => (h.nt hk).symm, fun hk => (h.tn hk).symm, fun h1 h2 => (h.tt h2 h1).symm⟩

def namesP (p : Ch) (n : List UInt8) : Bool := decide (p.nm = n) || (decide (p.k = 2) && decide (p.to = n))
def apartP (p q : Ch) : Bool := !namesP p q.nm && (decide (q.k ≠ 2) || !namesP p q.to)
theorem apartP_iff {p q : Ch} : apartP p q = true ↔ Apart p q := by
  unfold apartP namesP
  simp only [Bool.and_eq_true, Bool.or_eq_true, Bool.not_eq_true', Bool.or_eq_false_iff, Bool.and_eq_false_iff, decide_eq_true_eq, decide_eq_false_iff_not]
  constructor
  · rintro ⟨⟨h1, h2⟩, h3⟩
    refine ⟨h1, fun hk => h2.resolve_left (fun h => h hk), fun hk => ?_, fun hk hk' => ?_⟩
    · rcases h3 with h3 | h3
      · exact absurd hk h3
      · exact h3.1
    · rcases h3 with h3 | h3
      · exact absurd hk' h3
      · exact h3.2.resolve_left (fun h => h hk)
  · rintro ⟨h1, h2, h3, h4⟩
    refine ⟨⟨h1, ?_⟩, ?_⟩
    · by_cases hk : p.k = 2
      · exact .inr (h2 hk)
      · exact .inl hk
    · by_cases hk : q.k = 2
      · refine .inr ⟨h3 hk, ?_⟩
        by_cases hk' : p.k = 2
        · exact .inr (h4 hk' hk)
        · exact .inl hk'
      · exact .inl hk

/-- What two changes are when the second one is ahead. -/
def passP (p q : Ch) : Option (Ch × Ch) :=
  if mayP p = false ∨ mayP q = false then none
  else if apartP p q = true then some (q, p)
  else if p.k = 3 ∧ q.k = 3 then (Sw.passH p.h q.h).map fun z => (⟨q.k, q.nm, q.to, z.1⟩, ⟨p.k, p.nm, p.to, z.2⟩)
  else if p.k = 2 ∧ (q.k = 3 ∨ q.k = 4) ∧ q.nm = p.to then some (⟨q.k, p.nm, q.to, q.h⟩, p)
  else if q.k = 2 ∧ (p.k = 3 ∨ p.k = 4) ∧ p.nm = q.nm then some (q, ⟨p.k, q.to, p.to, p.h⟩)
  else none

/-- The ways in which two pass. -/
inductive Way (p q : Ch) : Ch → Ch → Prop
  | apart (h : Apart p q) : Way p q q p
  | both (hp : p.k = 3) (hq : q.k = 3) (hn : p.nm = q.nm) (u v : HU) (h : Sw.passH p.h q.h = some (u, v)) : Way p q ⟨q.k, q.nm, q.to, u⟩ ⟨p.k, p.nm, p.to, v⟩
  | out (hp : p.k = 2) (hq : q.k = 3 ∨ q.k = 4) (hn : q.nm = p.to) : Way p q ⟨q.k, p.nm, q.to, q.h⟩ p
  | into (hq : q.k = 2) (hp : p.k = 3 ∨ p.k = 4) (hn : p.nm = q.nm) : Way p q q ⟨p.k, q.to, p.to, p.h⟩

theorem may_not {p q : Ch} (hp : mayP p = true) (hq : mayP q = true) : ¬ (mayP p = false ∨ mayP q = false) := by rw [hp, hq]; simp
theorem passP_apart {p q : Ch} (hp : mayP p = true) (hq : mayP q = true) (h : Apart p q) : passP p q = some (q, p) := by
  unfold passP; rw [if_neg (may_not hp hq), if_pos (apartP_iff.2 h)]
/-- Two patches that are not apart are of one file. -/
theorem both_name {p q : Ch} (h : ¬ Apart p q) (hp : p.k = 3) (hq : q.k = 3) : p.nm = q.nm := by
  by_cases hn : p.nm = q.nm
  · exact hn
  · exact absurd ⟨hn, fun h => absurd h (by omega), fun h => absurd h (by omega), fun h => absurd h (by omega)⟩ h
theorem passP_way {p q x y : Ch} (h : passP p q = some (x, y)) : mayP p = true ∧ mayP q = true ∧ Way p q x y := by
  unfold passP at h
  split at h
  · cases h
  · rename_i hm
    have hp : mayP p = true := by
      cases hb : mayP p with
      | true => rfl
      | false => exact absurd (.inl hb) hm
    have hq : mayP q = true := by
      cases hb : mayP q with
      | true => rfl
      | false => exact absurd (.inr hb) hm
    refine ⟨hp, hq, ?_⟩
    split at h
    · rename_i ha
      injection h with h; injection h with h1 h2
      subst h1 h2
      exact .apart (apartP_iff.1 ha)
    · rename_i ha
      have ha : ¬ Apart p q := fun a => ha (apartP_iff.2 a)
      split at h
      · rename_i hk
        cases hz : Sw.passH p.h q.h with
        | none => rw [hz] at h; cases h
        | some z =>
          rw [hz] at h
          injection h with h; injection h with h1 h2
          subst h1 h2
          exact .both hk.1 hk.2 (both_name ha hk.1 hk.2) z.1 z.2 hz
      · split at h
        · rename_i hk
          injection h with h; injection h with h1 h2
          subst h1 h2
          exact .out hk.1 hk.2.1 hk.2.2
        · split at h
          · rename_i hk
            injection h with h; injection h with h1 h2
            subst h1 h2
            exact .into hk.1 hk.2.1 hk.2.2
          · cases h
theorem may_h {p : Ch} (hm : mayP p = true) (hk : p.k = 3 ∨ p.k = 4) : name p.nm = true ∧ p.to = [] ∧ mayH p.h = true ∧ (p.k = 4 → p.h.pos = 0) := by
  obtain ⟨hn, h⟩ := mayP_cases.1 hm
  rcases h with ⟨h, _⟩ | ⟨h, _⟩ | ⟨h, h1, h2⟩ | ⟨h, h1, h2, h3⟩
  · omega
  · omega
  · exact ⟨hn, h1, h2, fun h => by omega⟩
  · exact ⟨hn, h1, h2, fun _ => h3⟩
theorem h_may {p : Ch} (hk : p.k = 3 ∨ p.k = 4) (hn : name p.nm = true) (ht : p.to = []) (hh : mayH p.h = true) (h4 : p.k = 4 → p.h.pos = 0) : mayP p = true := by
  rw [mayP_cases]
  refine ⟨hn, ?_⟩
  rcases hk with hk | hk
  · exact .inr (.inr (.inl ⟨hk, ht, hh⟩))
  · exact .inr (.inr (.inr ⟨hk, ht, hh, h4 hk⟩))
theorem may_2 {p : Ch} (hm : mayP p = true) (hk : p.k = 2) : name p.nm = true ∧ name p.to = true ∧ p.to ≠ p.nm := by
  obtain ⟨hn, h⟩ := mayP_cases.1 hm
  rcases h with ⟨h, _⟩ | ⟨h, h1, h2, _⟩ | ⟨h, _⟩ | ⟨h, _⟩
  · omega
  · exact ⟨hn, h1, h2⟩
  · omega
  · omega
/-- What passed may be. -/
theorem way_may {p q x y : Ch} (hp : mayP p = true) (hq : mayP q = true) (w : Way p q x y) : mayP x = true ∧ mayP y = true := by
  cases w with
  | apart h => exact ⟨hq, hp⟩
  | both kp kq hn u v h =>
    obtain ⟨a1, a2, a3, a4⟩ := may_h hp (.inl kp)
    obtain ⟨b1, b2, b3, b4⟩ := may_h hq (.inl kq)
    obtain ⟨m1, m2⟩ := Sw.passH_mays h
    exact ⟨h_may (.inl kq) b1 b2 m1 (fun h => by simp only at h; omega), h_may (.inl kp) a1 a2 m2 (fun h => by simp only at h; omega)⟩
  | out kp kq hn =>
    obtain ⟨b1, b2, b3, b4⟩ := may_h hq kq
    exact ⟨h_may kq (may_2 hp kp).1 b2 b3 b4, hp⟩
  | into kq kp hn =>
    obtain ⟨a1, a2, a3, a4⟩ := may_h hp kp
    exact ⟨hq, h_may kp (may_2 hq kq).2.1 a2 a3 a4⟩

/-- Passing one another changes no kind, and no lines. -/
theorem way_kinds {p q x y : Ch} (w : Way p q x y) : (x.k = q.k ∧ x.to = q.to ∧ x.h.old = q.h.old ∧ x.h.new = q.h.new) ∧ (y.k = p.k ∧ y.to = p.to ∧ y.h.old = p.h.old ∧ y.h.new = p.h.new) := by
  cases w with
  | apart h => exact ⟨⟨rfl, rfl, rfl, rfl⟩, rfl, rfl, rfl, rfl⟩
  | both kp kq hn u v h =>
    obtain ⟨_, a1, a2, a3, a4⟩ := Sw.pass_moves (x := u) (y := v) (Sw.passH_may h).2.2.1
    exact ⟨⟨rfl, rfl, a1, a2⟩, rfl, rfl, a3, a4⟩
  | out kp kq hn => exact ⟨⟨rfl, rfl, rfl, rfl⟩, rfl, rfl, rfl, rfl⟩
  | into kq kp hn => exact ⟨⟨rfl, rfl, rfl, rfl⟩, rfl, rfl, rfl, rfl⟩
theorem doP_local {t t' u : TR} {p : Ch} (hu : Up lt t) (hu' : Up lt t') (h : doP t p = (0, u)) (h1 : get t' p.nm = get t p.nm) (h2 : p.k = 2 → get t' p.to = get t p.to) :
    ∃ u', doP t' p = (0, u') ∧ get u' p.nm = get u p.nm ∧ (p.k = 2 → get u' p.to = get u p.to) := by
  obtain ⟨hm, h⟩ := doP_cases h
  rcases h with ⟨hk, hg, rfl⟩ | ⟨hk, hg, rfl⟩ | ⟨hk, l, hg, ht, rfl⟩ | ⟨hk, l, hg, he, rfl⟩
  · exact ⟨_, doP_0 hm hk (by rw [h1, hg]), by rw [get_put, get_put, if_pos rfl, if_pos rfl], fun h => by omega⟩
  · exact ⟨_, doP_1 hm hk (by rw [h1, hg]), by rw [get_del lin hu', get_del lin hu, if_pos rfl, if_pos rfl], fun h => by omega⟩
  · have hne := (may_2 hm hk).2.2
    exact ⟨_, doP_2 (l := l) hm hk (by rw [h1, hg]) (by rw [h2 hk, ht]), by rw [get_put, get_put, if_neg hne, if_neg hne, get_del lin hu', get_del lin hu, if_pos rfl, if_pos rfl], fun _ => by rw [get_put, get_put, if_pos rfl, if_pos rfl]⟩
  · exact ⟨_, doP_h (l := l) hm hk (by rw [h1, hg]) he, by rw [get_put, get_put, if_pos rfl, if_pos rfl], fun h => by omega⟩
/-- Where both change a tree, one behind the other, those that are told do so, in their order, to the same. -/
theorem passP_same {t u v : TR} {p q x y : Ch} (hu : Up lt t) (h : passP p q = some (x, y)) (h1 : doP t p = (0, u)) (h2 : doP u q = (0, v)) : ∃ w, doP t x = (0, w) ∧ doP w y = (0, v) := by
  obtain ⟨hp, hq, wy⟩ := passP_way h
  obtain ⟨hx, hy⟩ := way_may hp hq wy
  have uu := doP_up hu h1
  have uv := doP_up uu h2
  cases wy with
  | apart a =>
    have k1 : get u q.nm = get t q.nm := doP_keeps hu h1 a.nn.symm (fun hk => (a.tn hk).symm)
    have k2 : q.k = 2 → get u q.to = get t q.to := fun hk => doP_keeps hu h1 (a.nt hk).symm (fun hk' => (a.tt hk' hk).symm)
    obtain ⟨w, hw, w1, w2⟩ := doP_local uu hu h2 k1.symm (fun hk => (k2 hk).symm)
    have uw := doP_up hu hw
    have k3 : get w p.nm = get t p.nm := doP_keeps hu hw a.nn a.nt
    have k4 : p.k = 2 → get w p.to = get t p.to := fun hk => doP_keeps hu hw (a.tn hk) (fun hk' => a.tt hk hk')
    obtain ⟨v', hv, v1, v2⟩ := doP_local hu uw h1 k3 k4
    refine ⟨w, hw, ?_⟩
    rw [hv]
    refine congrArg (Prod.mk 0) (up_ext lin (doP_up uw hv) uv fun n => ?_)
    by_cases n1 : n = p.nm
    · subst n1; rw [v1, doP_keeps uu h2 a.nn a.nt]
    · by_cases n2 : p.k = 2 ∧ n = p.to
      · obtain ⟨hk, rfl⟩ := n2
        rw [v2 hk, doP_keeps uu h2 (a.tn hk) (fun hk' => a.tt hk hk')]
      · have e1 : get v' n = get w n := doP_keeps uw hv n1 (fun hk e => n2 ⟨hk, e⟩)
        have e2 : get u n = get t n := doP_keeps hu h1 n1 (fun hk e => n2 ⟨hk, e⟩)
        rw [e1]
        by_cases n3 : n = q.nm
        · subst n3; rw [w1]
        · by_cases n4 : q.k = 2 ∧ n = q.to
          · obtain ⟨hk, rfl⟩ := n4
            rw [w2 hk]
          · rw [doP_keeps hu hw n3 (fun hk e => n4 ⟨hk, e⟩), doP_keeps uu h2 n3 (fun hk e => n4 ⟨hk, e⟩), e2]
  | both kp kq hn a b hh =>
    obtain ⟨_, c1⟩ := doP_cases h1
    obtain ⟨l, hg, he, rfl⟩ : ∃ l, get t p.nm = some l ∧ lineE l p = 0 ∧ u = put lt t p.nm (lineL l p) := by
      rcases c1 with ⟨hk, _⟩ | ⟨hk, _⟩ | ⟨hk, _⟩ | ⟨_, h⟩
      · omega
      · omega
      · omega
      · exact h
    obtain ⟨_, c2⟩ := doP_cases h2
    obtain ⟨m, hg2, he2, rfl⟩ : ∃ m, get (put lt t p.nm (lineL l p)) q.nm = some m ∧ lineE m q = 0 ∧ v = put lt (put lt t p.nm (lineL l p)) q.nm (lineL m q) := by
      rcases c2 with ⟨hk, _⟩ | ⟨hk, _⟩ | ⟨hk, _⟩ | ⟨_, h⟩
      · omega
      · omega
      · omega
      · exact h
    rw [get_put, if_pos hn] at hg2
    injection hg2 with hg2
    subst hg2
    unfold lineE lineL at *
    simp only [kp, kq, if_true] at *
    obtain ⟨s1, s2, s3⟩ := Sw.passH_same hh he he2
    refine ⟨_, doP_h (p := ⟨3, q.nm, q.to, a⟩) (l := l) hx (.inl rfl) (by simp only; rw [← hn, hg]) (by unfold lineE; simp only [if_true]; exact s1), ?_⟩
    rw [doP_h (p := ⟨3, p.nm, p.to, b⟩) (l := applyL l a) hy (.inl rfl) (by simp only; rw [get_put, if_pos hn.symm]; unfold lineL; simp only [if_true]) (by unfold lineE; simp only [if_true]; exact s2)]
    unfold lineL
    simp only [if_true]
    rw [s3]
    refine congrArg (Prod.mk 0) (up_ext lin (up_put lin (up_put lin hu _ _) _ _) (up_put lin (up_put lin hu _ _) _ _) fun n => ?_)
    rw [get_put, get_put, get_put, get_put, hn]
    by_cases e : q.nm = n
    · rw [if_pos e, if_pos e]
    · rw [if_neg e, if_neg e, if_neg e, if_neg e]
  | out kp kq hn =>
    obtain ⟨_, c1⟩ := doP_cases h1
    obtain ⟨l, hg, ht, rfl⟩ : ∃ l, get t p.nm = some l ∧ get t p.to = none ∧ u = put lt (del t p.nm) p.to l := by
      rcases c1 with ⟨hk, _⟩ | ⟨hk, _⟩ | ⟨_, h⟩ | ⟨hk, _⟩
      · omega
      · omega
      · exact h
      · omega
    obtain ⟨_, c2⟩ := doP_cases h2
    obtain ⟨m, hg2, he2, rfl⟩ : ∃ m, get (put lt (del t p.nm) p.to l) q.nm = some m ∧ lineE m q = 0 ∧ v = put lt (put lt (del t p.nm) p.to l) q.nm (lineL m q) := by
      rcases c2 with ⟨hk, _⟩ | ⟨hk, _⟩ | ⟨hk, _⟩ | ⟨_, h⟩
      · omega
      · omega
      · omega
      · exact h
    rw [get_put, if_pos hn.symm] at hg2
    injection hg2 with hg2
    subst hg2
    have hne := (may_2 hp kp).2.2
    refine ⟨put lt t p.nm (lineL l q), doP_h (p := ⟨q.k, p.nm, q.to, q.h⟩) (l := l) hx kq hg he2, ?_⟩
    rw [doP_2 (p := p) (l := lineL l q) hp kp (by rw [get_put, if_pos rfl]) (by rw [get_put, if_neg hne.symm, ht])]
    have uw := up_put lin hu p.nm (lineL l q)
    refine congrArg (Prod.mk 0) (up_ext lin (up_put lin (up_del uw _) _ _) (up_put lin (up_put lin (up_del hu _) _ _) _ _) fun n => ?_)
    rw [get_put, get_put, get_put, get_del lin hu, get_del lin uw, get_put, hn]
    by_cases e : p.to = n
    · rw [if_pos e, if_pos e]
    · rw [if_neg e, if_neg e, if_neg e]
      by_cases e' : p.nm = n
      · rw [if_pos e', if_pos e']
      · rw [if_neg e', if_neg e', if_neg e']
  | into kq kp hn =>
    obtain ⟨_, c1⟩ := doP_cases h1
    obtain ⟨l, hg, he, rfl⟩ : ∃ l, get t p.nm = some l ∧ lineE l p = 0 ∧ u = put lt t p.nm (lineL l p) := by
      rcases c1 with ⟨hk, _⟩ | ⟨hk, _⟩ | ⟨hk, _⟩ | ⟨_, h⟩
      · omega
      · omega
      · omega
      · exact h
    obtain ⟨_, c2⟩ := doP_cases h2
    obtain ⟨m, hg2, ht, rfl⟩ : ∃ m, get (put lt t p.nm (lineL l p)) q.nm = some m ∧ get (put lt t p.nm (lineL l p)) q.to = none ∧ v = put lt (del (put lt t p.nm (lineL l p)) q.nm) q.to m := by
      rcases c2 with ⟨hk, _⟩ | ⟨hk, _⟩ | ⟨_, h⟩ | ⟨hk, _⟩
      · omega
      · omega
      · exact h
      · omega
    rw [get_put, if_pos hn] at hg2
    injection hg2 with hg2
    subst hg2
    have hne := (may_2 hq kq).2.2
    rw [get_put, if_neg (by rw [hn]; exact hne.symm)] at ht
    refine ⟨_, doP_2 (l := l) hq kq (by rw [← hn, hg]) ht, ?_⟩
    rw [doP_h (p := ⟨p.k, q.to, p.to, p.h⟩) (l := l) hy kp (by simp only; rw [get_put, if_pos rfl]) he]
    have uw := up_put lin hu p.nm (lineL l p)
    refine congrArg (Prod.mk 0) (up_ext lin (up_put lin (up_put lin (up_del hu _) _ _) _ _) (up_put lin (up_del uw _) _ _) fun n => ?_)
    rw [get_put, get_put, get_put, get_del lin hu, get_del lin uw, get_put, hn]
    by_cases e : q.to = n
    · rw [if_pos e, if_pos e]; rfl
    · rw [if_neg e, if_neg e, if_neg e]
      by_cases e' : q.nm = n
      · rw [if_pos e', if_pos e']
      · rw [if_neg e', if_neg e', if_neg e']

end Pr
end Go.Proofs.YtfnhjflocfmcoaaGreat

namespace Go.Proofs.YtfnhjflocfmcoaaGreat
open Go.RowKit
set_option linter.unusedVariables false
namespace Pr
open Tx Df Sq Hk Tr

/-- Noughts. -/
def zeroP : Ch := ⟨0, [], [], ⟨0, [], []⟩⟩
def outP (o : Option (Ch × Ch)) : Ch × Ch := o.getD (zeroP, zeroP)

/-- How a call ends that tells the changes x and y, and b. -/
def PPEnd (w : World) (x y : Ch) (b : Bool) (e : Ending) (w' : World) : Prop :=
  ∃ A n c B m d D i j E k l, e = .returned (.tuple #[prV x.k x.nm x.to x.h.pos A n c B m d, prV y.k y.nm y.to y.h.pos D i j E k l, .bool b]) ∧
    PV w' w'.heap.size A n c B m d x ∧ PV w' w'.heap.size D i j E k l y ∧ (n ≤ 1000 ∧ m ≤ 1000) ∧ (i ≤ 1000 ∧ k ≤ 1000) ∧ Below w.heap.size w w'

theorem outP_of {o : Option (Ch × Ch)} {x y : Ch} (h : outP o = (x, y)) (hb : o.isSome = true) : o = some (x, y) := by
  cases o with
  | none => cases hb
  | some z => exact congrArg some h
theorem none_ofP {α : Type} {o : Option α} (h : o.isSome = false) : o = none := by cases o with | none => rfl | some _ => cases h
theorem zero_PV (w : World) (B : Nat) : PV w B none 0 0 none 0 0 zeroP :=
  ⟨⟨rfl, rfl, Nat.le_refl _, Nat.le_refl _, Nat.zero_le _, Nat.zero_le _, .inl rfl, .inl rfl, ⟨by decide, by decide⟩⟩, ⟨by decide, by decide⟩, Nat.zero_le _, Nat.zero_le _, fun x hx => (by cases hx), fun x hx => (by cases hx)⟩

section
variable {w w' : World} {A B D E : Option Addr} {n c m d i j k l : Nat} {p q x y : Ch} {b : Bool}
/-- Noughts are told. -/
theorem ppEnd_none (ho : outP (passP p q) = (x, y)) (hb : (passP p q).isSome = b) (h : passP p q = none) (hw : Below w.heap.size w w') :
    PPEnd w x y b (.returned (.tuple #[.agg #[.int .i64 0, strV [], strV [], .int .i64 0, .slice none 0 0, .slice none 0 0], .agg #[.int .i64 0, strV [], strV [], .int .i64 0, .slice none 0 0, .slice none 0 0], .bool false])) w' := by
  rw [h] at ho hb
  subst hb
  injection ho with h1 h2
  subst h1 h2
  exact ⟨none, 0, 0, none, 0, 0, none, 0, 0, none, 0, 0, rfl, zero_PV _ _, zero_PV _ _, ⟨Nat.zero_le _, Nat.zero_le _⟩, ⟨Nat.zero_le _, Nat.zero_le _⟩, hw⟩
/-- Two are told. -/
theorem ppEnd_some (ho : outP (passP p q) = (x, y)) (hb : (passP p q).isSome = b) {x' y' : Ch} (h : passP p q = some (x', y')) (hv : PV w' w'.heap.size A n c B m d x') (gv : PV w' w'.heap.size D i j E k l y') (hl : n ≤ 1000 ∧ m ≤ 1000) (gl : i ≤ 1000 ∧ k ≤ 1000) (hw : Below w.heap.size w w') :
    PPEnd w x y b (.returned (.tuple #[prV x'.k x'.nm x'.to x'.h.pos A n c B m d, prV y'.k y'.nm y'.to y'.h.pos D i j E k l, .bool true])) w' := by
  rw [h] at ho hb
  subst hb
  injection ho with h1 h2
  subst h1 h2
  exact ⟨A, n, c, B, m, d, D, i, j, E, k, l, rfl, hv, gv, hl, gl, hw⟩
/-- A change of another name, or place. -/
theorem PV.name (hv : PV w k A n c B m d p) (s : List UInt8) (hs : s.length ≤ maxLen) : PV w k A n c B m d ⟨p.k, s, p.to, p.h⟩ := ⟨hv.h, hv.k, hs, hv.to, hv.s, hv.s'⟩
theorem PV.hunk {N N' : Nat} (hv : PV w N A n c B m d p) {h : HU} (gv : HV w' N' D i j E k l h) (ho : h.old = p.h.old) (hn : h.new = p.h.new) : PV w' N' D i j E k l ⟨p.k, p.nm, p.to, h⟩ := ⟨gv, hv.k, hv.nm, hv.to, (by dsimp only; rw [ho]; exact hv.s), (by dsimp only; rw [hn]; exact hv.s')⟩
end

theorem PV.hi {W : World} {N lo b : Nat} {A B : Option Addr} {n c m d : Nat} {x : Ch} (h : PV W N A n c B m d x) (hi : Hi lo A) (hi' : Hi lo B) (hb : b < lo) (j : Nat) (v : Value) : PV (W.setCell ⟨b, j, none⟩ v) N A n c B m d x :=
  ⟨⟨h.h.l, h.h.l', h.h.k, h.h.k', h.h.m, h.h.m', rdS_hi h.h.r hi hb j v, rdS_hi h.h.r' hi' hb j v, h.h.p⟩, h.k, h.nm, h.to, h.s, h.s'⟩
theorem PV.hi6 {W : World} {N lo b : Nat} {A B : Option Addr} {n c m d : Nat} {x : Ch} (h : PV W N A n c B m d x) (hi : Hi lo A) (hi' : Hi lo B) (hb : b < lo) (v0 v1 v2 v3 v4 v5 : Value) :
    PV ((((((W.setCell ⟨b, 0, none⟩ v0).setCell ⟨b, 1, none⟩ v1).setCell ⟨b, 2, none⟩ v2).setCell ⟨b, 3, none⟩ v3).setCell ⟨b, 4, none⟩ v4).setCell ⟨b, 5, none⟩ v5) N A n c B m d x :=
  (((((h.hi hi hi' hb 0 v0).hi hi hi' hb 1 v1).hi hi hi' hb 2 v2).hi hi hi' hb 3 v3).hi hi hi' hb 4 v4).hi hi hi' hb 5 v5
/-- The same, of lines in memory of their own. -/
def PPEndH (w : World) (x y : Ch) (b : Bool) (e : Ending) (w' : World) : Prop :=
  ∃ A n c B m d D i j E k l, e = .returned (.tuple #[prV x.k x.nm x.to x.h.pos A n c B m d, prV y.k y.nm y.to y.h.pos D i j E k l, .bool b]) ∧
    PV w' w'.heap.size A n c B m d x ∧ PV w' w'.heap.size D i j E k l y ∧ (n ≤ 1000 ∧ m ≤ 1000) ∧ (i ≤ 1000 ∧ k ≤ 1000) ∧ (Hi w.heap.size A ∧ Hi w.heap.size B ∧ Hi w.heap.size D ∧ Hi w.heap.size E) ∧ Below w.heap.size w w'
theorem PPEndH.end_ {w w' : World} {x y : Ch} {b : Bool} {e : Ending} (h : PPEndH w x y b e w') : PPEnd w x y b e w' := by
  obtain ⟨A, n, c, B, m, d, D, i, j, E, k, l, h1, h2, h3, h4, h5, _, h6⟩ := h
  exact ⟨A, n, c, B, m, d, D, i, j, E, k, l, h1, h2, h3, h4, h5, h6⟩

end Pr
end Go.Proofs.YtfnhjflocfmcoaaGreat

namespace Go.Proofs.YtfnhjflocfmcoaaGreat
open Go.RowKit
set_option linter.unusedVariables false
namespace Pr
open Tx Df Sq Hk Tr

/-- How a call ends that tells the lines that are handed in, as they are. -/
def PPEndE (A : Option Addr) (n c : Nat) (A' : Option Addr) (n' c' : Nat) (D : Option Addr) (m k : Nat) (D' : Option Addr) (m' k' : Nat) (w : World) (o : Option (Ch × Ch)) (e : Ending) (w' : World) : Prop :=
  (∀ z, o = some z → e = .returned (.tuple #[prV z.1.k z.1.nm z.1.to z.1.h.pos D m k D' m' k', prV z.2.k z.2.nm z.2.to z.2.h.pos A n c A' n' c', .bool true])) ∧
  (o = none → e = .returned (.tuple #[.agg #[.int .i64 0, strV [], strV [], .int .i64 0, .slice none 0 0, .slice none 0 0], .agg #[.int .i64 0, strV [], strV [], .int .i64 0, .slice none 0 0, .slice none 0 0], .bool false])) ∧ Below w.heap.size w w'
section
variable {A A' D D' : Option Addr} {n c n' c' m k m' k' : Nat} {w w' : World} {o : Option (Ch × Ch)} {e : Ending} {p q x y : Ch} {b : Bool}
/-- What is told reads as the lines that are handed in. -/
theorem way_pv {N : Nat} (h : Way p q x y) (hv : PV w N A n c A' n' c' p) (gv : PV w N D m k D' m' k' q) : PV w N D m k D' m' k' x ∧ PV w N A n c A' n' c' y := by
  cases h with
  | apart h => exact ⟨gv, hv⟩
  | out kp kq hn => exact ⟨gv.name p.nm hv.nm, hv⟩
  | into kq kp hn => exact ⟨gv, hv.name q.to gv.to⟩
  | both kp kq hn u v h =>
    obtain ⟨m1, m2⟩ := Sw.passH_mays h
    obtain ⟨_, b1, b2, b3, b4⟩ := Sw.pass_moves (x := u) (y := v) (Sw.passH_may h).2.2.1
    have g1 := Sw.mayH_pos m1
    have g2 := Sw.mayH_pos m2
    refine ⟨gv.hunk (h := u) ⟨by rw [b1]; exact gv.h.l, by rw [b2]; exact gv.h.l', gv.h.k, gv.h.k', gv.h.m, gv.h.m', by rw [b1]; exact gv.h.r, by rw [b2]; exact gv.h.r', ⟨by omega, by omega⟩⟩ b1 b2, ?_⟩
    exact hv.hunk (h := v) ⟨by rw [b3]; exact hv.h.l, by rw [b4]; exact hv.h.l', hv.h.k, hv.h.k', hv.h.m, hv.h.m', by rw [b3]; exact hv.h.r, by rw [b4]; exact hv.h.r', ⟨by omega, by omega⟩⟩ b3 b4
theorem PPEndE.end_ (h : PPEndE A n c A' n' c' D m k D' m' k' w (passP p q) e w') (hl : n ≤ 1000 ∧ n' ≤ 1000) (gl : m ≤ 1000 ∧ m' ≤ 1000) (hv : PV w w.heap.size A n c A' n' c' p) (gv : PV w w.heap.size D m k D' m' k' q) (ho : outP (passP p q) = (x, y)) (hb : (passP p q).isSome = b) : PPEnd w x y b e w' := by
  obtain ⟨h1, h2, hw⟩ := h
  cases hz : passP p q with
  | none => rw [h2 hz]; exact ppEnd_none ho hb hz hw
  | some z =>
    rw [h1 z hz]
    obtain ⟨v1, v2⟩ := way_pv (passP_way (x := z.1) (y := z.2) hz).2.2 (hv.mv hw) (gv.mv hw)
    exact ppEnd_some ho hb (x' := z.1) (y' := z.2) hz v1 v2 gl hl hw
end

end Pr
end Go.Proofs.YtfnhjflocfmcoaaGreat

namespace Go.Proofs.YtfnhjflocfmcoaaGreat
namespace Pr
open Tx Sq Hk Tr
set_option linter.unusedVariables false

end Pr
end Go.Proofs.YtfnhjflocfmcoaaGreat

namespace Go.Proofs.YtfnhjflocfmcoaaGreat
open Go.RowKit
set_option linter.unusedVariables false
set_option linter.unusedSimpArgs false
namespace Pr
open Tx Df Sq Hk Tr

set_option maxHeartbeats 1000000 in
theorem Names (A : Option Addr) (n c : Nat) (A' : Option Addr) (n' c' : Nat) (p : Ch) (s : List UInt8) (w : World) (b : Bool) (hb : namesP p s = b) :
    Calls Tryz.prog 108 #[prV p.k p.nm p.to p.h.pos A n c A' n' c', strV s] w (TestEnd w b) := by
  have HB := Lib.hid hb.symm
  clear hb
  have hw : Below w.heap.size w (w.alloc (.cells #[.int .i64 p.k, strV p.nm, strV p.to, .int .i64 p.h.pos, .slice A n c, .slice A' n' c'] 55)) := (Below.refl _ _).alloc (Nat.le_refl _) _
  have HW := Lib.hid hw; clear hw
  unfold namesP at HB
  by_cases h1 : p.nm = s
  · have e1 : (p.nm == s) = true := by simpa using h1
    have H1 := Lib.hid h1; clear h1
    go_enter Tryz.func108, Tryz.ntmps108
    go_wp2
    go_ret
    exact ⟨ret_bool (by rw [HB.out, decide_eq_true H1.out]; rfl), HW.out⟩
  have e1 : (p.nm == s) = false := by simpa using h1
  have H1 := Lib.hid h1; clear h1
  by_cases h2 : p.k = 2
  · have e2 : (p.k == 2) = true := by simpa using h2
    have H2 := Lib.hid h2; clear h2
    cases h3 : (p.to == s)
    all_goals
      go_enter Tryz.func108, Tryz.ntmps108
      go_wp2
      go_ret
    · exact ⟨ret_bool (by rw [HB.out, decide_eq_false H1.out, decide_eq_true H2.out, decide_eq_false (by simpa using h3)]; rfl), HW.out⟩
    · exact ⟨ret_bool (by rw [HB.out, decide_eq_false H1.out, decide_eq_true H2.out, decide_eq_true (by simpa using h3)]; rfl), HW.out⟩
  · have e2 : (p.k == 2) = false := by simpa using h2
    go_enter Tryz.func108, Tryz.ntmps108
    go_wp2
    go_ret
    exact ⟨ret_bool (by rw [HB.out, decide_eq_false H1.out, decide_eq_false h2]; rfl), HW.out⟩

set_option maxHeartbeats 1000000 in
theorem Meet (A : Option Addr) (n c : Nat) (A' : Option Addr) (n' c' : Nat) (D : Option Addr) (m k : Nat) (D' : Option Addr) (m' k' : Nat) (p q : Ch) (w : World) (b : Bool) (hb : apartP p q = b) :
    Calls Tryz.prog 78 #[prV p.k p.nm p.to p.h.pos A n c A' n' c', prV q.k q.nm q.to q.h.pos D m k D' m' k'] w (TestEnd w (!b)) := by
  have HB := Lib.hid hb.symm
  clear hb
  obtain ⟨b1, h1⟩ : ∃ b, namesP p q.nm = b := ⟨_, rfl⟩
  obtain ⟨b2, h2⟩ : ∃ b, namesP p q.to = b := ⟨_, rfl⟩
  have H1 := Lib.hid h1; have H2 := Lib.hid h2; clear h1 h2
  have hw := two_box w (.cells #[.int .i64 p.k, strV p.nm, strV p.to, .int .i64 p.h.pos, .slice A n c, .slice A' n' c'] 55) (.cells #[.int .i64 q.k, strV q.nm, strV q.to, .int .i64 q.h.pos, .slice D m k, .slice D' m' k'] 55)
  have b0 := (Blk.new w 55 #[.int .i64 p.k, strV p.nm, strV p.to, .int .i64 p.h.pos, .slice A n c, .slice A' n' c']).alloc (.cells #[.int .i64 q.k, strV q.nm, strV q.to, .int .i64 q.h.pos, .slice D m k, .slice D' m' k'] 55)
  have c0 := Blk.new (w.alloc (.cells #[.int .i64 p.k, strV p.nm, strV p.to, .int .i64 p.h.pos, .slice A n c, .slice A' n' c'] 55)) 55 #[.int .i64 q.k, strV q.nm, strV q.to, .int .i64 q.h.pos, .slice D m k, .slice D' m' k']
  simp only [World.size_alloc] at c0
  go_enter Tryz.func78, Tryz.ntmps78
  go_wp2_with fail
  generalize ((w.alloc (.cells #[.int .i64 p.k, strV p.nm, strV p.to, .int .i64 p.h.pos, .slice A n c, .slice A' n' c'] 55)).alloc (.cells #[.int .i64 q.k, strV q.nm, strV q.to, .int .i64 q.h.pos, .slice D m k, .slice D' m' k'] 55)) = w1 at *
  have HW1 := Lib.hid hw; have HB1 := Lib.hid b0; have HC1 := Lib.hid c0
  clear hw b0 c0
  refine (Names A n c A' n' c' p q.nm w1 b1 H1.out).mono ?_
  rintro e w2 ⟨rfl, hb⟩
  have HW2 := Lib.hid (HW1.out.trans (hb.mono HW1.out.size)); have HB2 := Lib.hid (HB1.out.below hb HB1.out.lt); have HC2 := Lib.hid (HC1.out.below hb HC1.out.lt)
  clear hb HW1 HB1 HC1
  have x0 : w2.cell? ⟨w.heap.size, 0, none⟩ = some (.int .i64 p.k) := HB2.out.cell 0 rfl; have x1 : w2.cell? ⟨w.heap.size, 1, none⟩ = some (strV p.nm) := HB2.out.cell 1 rfl; have x2 : w2.cell? ⟨w.heap.size, 2, none⟩ = some (strV p.to) := HB2.out.cell 2 rfl; have x3 : w2.cell? ⟨w.heap.size, 3, none⟩ = some (.int .i64 p.h.pos) := HB2.out.cell 3 rfl; have x4 : w2.cell? ⟨w.heap.size, 4, none⟩ = some (.slice A n c) := HB2.out.cell 4 rfl; have x5 : w2.cell? ⟨w.heap.size, 5, none⟩ = some (.slice A' n' c') := HB2.out.cell 5 rfl
  have y0 : w2.cell? ⟨w.heap.size + 1, 0, none⟩ = some (.int .i64 q.k) := HC2.out.cell 0 rfl; have y1 : w2.cell? ⟨w.heap.size + 1, 1, none⟩ = some (strV q.nm) := HC2.out.cell 1 rfl; have y2 : w2.cell? ⟨w.heap.size + 1, 2, none⟩ = some (strV q.to) := HC2.out.cell 2 rfl; have y3 : w2.cell? ⟨w.heap.size + 1, 3, none⟩ = some (.int .i64 q.h.pos) := HC2.out.cell 3 rfl; have y4 : w2.cell? ⟨w.heap.size + 1, 4, none⟩ = some (.slice D m k) := HC2.out.cell 4 rfl; have y5 : w2.cell? ⟨w.heap.size + 1, 5, none⟩ = some (.slice D' m' k') := HC2.out.cell 5 rfl
  unfold apartP at HB
  rw [H1.out, H2.out] at HB
  cases b1 with
  | true =>
    go_wp2
    go_ret
    exact ⟨ret_bool (by rw [HB.out]; simp), HW2.out⟩
  | false =>
  by_cases hk : q.k = 2
  · have e1 : (q.k == 2) = true := by simpa using hk
    have HK := Lib.hid hk; clear hk
    go_wp2_with fail
    refine (Names A n c A' n' c' p q.to w2 b2 H2.out).mono ?_
    rintro e w3 ⟨rfl, hb⟩
    clear x0 x1 x2 x3 x4 x5 y0 y1 y2 y3 y4 y5
    have HW3 := Lib.hid (HW2.out.trans (hb.mono HW2.out.size))
    clear hb HW2
    go_wp2
    go_ret
    exact ⟨ret_bool (by rw [HB.out]; simp [HK.out]), HW3.out⟩
  · have e1 : (q.k == 2) = false := by simpa using hk
    have HK := Lib.hid hk; clear hk
    go_wp2
    go_ret
    exact ⟨ret_bool (by rw [HB.out]; simp [HK.out]), HW2.out⟩

/-- How own ends: the change, of lines of one's own. -/
def POEnd (w : World) (n n' : Nat) (p : Ch) (e : Ending) (w' : World) : Prop :=
  ∃ D d D' d', e = .returned (prV p.k p.nm p.to p.h.pos D n d D' n' d') ∧ PV w' w'.heap.size D n d D' n' d' p ∧ (Hi w.heap.size D ∧ Hi w.heap.size D') ∧ Below w.heap.size w w'

set_option maxRecDepth 100000 in
set_option maxHeartbeats 2000000 in
theorem OwnC (A : Option Addr) (n c : Nat) (A' : Option Addr) (n' c' B : Nat) (p : Ch) (w : World) (hB : B ≤ w.heap.size) (hn : n ≤ 1000) (hn' : n' ≤ 1000) (hv : PV w B A n c A' n' c' p) :
    Calls Tryz.prog 80 #[prV p.k p.nm p.to p.h.pos A n c A' n' c'] w (POEnd w n n' p) := by
  obtain ⟨j0, hj, hy0, hy1, hy2⟩ := info_parts info_str
  have HV0 := Lib.hid hv
  have HBL := Lib.hid hB
  clear hv hB
  go_enter Tryz.func80, Tryz.ntmps80
  go_upto_region 1 with fail
  have b1 := (Blk.new w 55 #[.int .i64 p.k, strV p.nm, strV p.to, .int .i64 p.h.pos, .slice A n c, .slice A' n' c']).alloc (.cells #[.int .i64 0, strV [], strV [], .int .i64 0, .slice none 0 0, .slice none 0 0] 55)
  have b2 := Blk.new (w.alloc (.cells #[.int .i64 p.k, strV p.nm, strV p.to, .int .i64 p.h.pos, .slice A n c, .slice A' n' c'] 55)) 55 #[.int .i64 0, strV [], strV [], .int .i64 0, .slice none 0 0, .slice none 0 0]
  have hw := two_box w (.cells #[.int .i64 p.k, strV p.nm, strV p.to, .int .i64 p.h.pos, .slice A n c, .slice A' n' c'] 55) (.cells #[.int .i64 0, strV [], strV [], .int .i64 0, .slice none 0 0, .slice none 0 0] 55)
  simp only [World.size_alloc] at b2
  generalize (w.alloc (.cells #[.int .i64 p.k, strV p.nm, strV p.to, .int .i64 p.h.pos, .slice A n c, .slice A' n' c'] 55)).alloc (.cells #[.int .i64 0, strV [], strV [], .int .i64 0, .slice none 0 0, .slice none 0 0] 55) = W at *
  obtain ⟨g, hgs⟩ : ∃ g, w.heap.size = g := ⟨_, rfl⟩
  rw [hgs] at b1 b2 hw ⊢
  have HGS := Lib.hid hgs
  have R1 := Lib.hid (And.intro HV0.out.h.l (Rd.below HV0.out.h.r (hw.mono (by rw [← hgs]; exact HBL.out))))
  have R2 := Lib.hid (And.intro HV0.out.h.l' (Rd.below HV0.out.h.r' (hw.mono (by rw [← hgs]; exact HBL.out))))
  have HW := Lib.hid hw; have B1 := Lib.hid b1; have B2 := Lib.hid b2
  have HBW : Hid (B ≤ g) := Lib.hid (by rw [← hgs]; exact HBL.out)
  clear hgs hw b1 b2
  have x0 : W.cell? ⟨g, 0, none⟩ = some (.int .i64 p.k) := B1.out.cell 0 rfl; have x1 : W.cell? ⟨g, 1, none⟩ = some (strV p.nm) := B1.out.cell 1 rfl; have x2 : W.cell? ⟨g, 2, none⟩ = some (strV p.to) := B1.out.cell 2 rfl; have x3 : W.cell? ⟨g, 3, none⟩ = some (.int .i64 p.h.pos) := B1.out.cell 3 rfl; have x4 : W.cell? ⟨g, 4, none⟩ = some (.slice A n c) := B1.out.cell 4 rfl; have x5 : W.cell? ⟨g, 5, none⟩ = some (.slice A' n' c') := B1.out.cell 5 rfl
  go_upto_region 2 with (at_builtin; refine wpList_nil' rfl (.const (.slice none 0 0)) (.tmp 5) 49 rfl 9 j0 (.string ⟨#[]⟩) 16 Tryz.underlying49 hj hy0 hy1 hy2 rfl rfl B A n c (p.h.old.map strV) rfl (by rw [List.length_map]; exact R1.out.1) R1.out.2 (strs_one _) (by unfold maxLen; omega) (by omega) ?_; intro D1 d1 w1 hA hg; have b1 := B1.out.gr hg (nn _); have b2 := B2.out.gr hg (nn _); have f4 : w1.frozen? ⟨g, 4, none⟩ = false := b1.frozen 4; have z0 : w1.cell? ⟨g, 0, none⟩ = some (.int .i64 p.k) := b1.cell 0 rfl; have z1 : w1.cell? ⟨g, 1, none⟩ = some (strV p.nm) := b1.cell 1 rfl; have z2 : w1.cell? ⟨g, 2, none⟩ = some (strV p.to) := b1.cell 2 rfl; have z3 : w1.cell? ⟨g, 3, none⟩ = some (.int .i64 p.h.pos) := b1.cell 3 rfl; have z4 : w1.cell? ⟨g, 4, none⟩ = some (.slice A n c) := b1.cell 4 rfl; have z5 : w1.cell? ⟨g, 5, none⟩ = some (.slice A' n' c') := b1.cell 5 rfl; have hgl := HW.out.size; have BA := Lib.hid b1; have BB := Lib.hid b2; have HA := Lib.hid hA; have HG := Lib.hid hg; clear b1 b2 hA hg)
  clear x0 z0 x1 z1 x2 z2 x3 z3 x4 z4 x5 z5 f4
  have hl1 := HG.out.size
  have hgW : g + 1 < W.heap.size := B2.out.lt
  have b3 : Blk (World.setCell w1 ⟨g, 4, none⟩ (.slice D1 n d1)) g 55 #[.int .i64 p.k, strV p.nm, strV p.to, .int .i64 p.h.pos, .slice D1 n d1, .slice A' n' c'] := BA.out.set 4 (.slice D1 n d1)
  have b4 := BB.out.set_ne (show g + 1 ≠ g by omega) 4 (.slice D1 n d1)
  have o1 := own_set HA.out (show g < W.heap.size by omega) 4 (.slice D1 n d1)
  have h1 : Below g w (World.setCell w1 ⟨g, 4, none⟩ (.slice D1 n d1)) := (HW.out.trans ((below_gr HG.out).mono (by omega))).setCell (p := ⟨g, 4, none⟩) (Nat.le_refl _) _
  have r2 : RdS (World.setCell w1 ⟨g, 4, none⟩ (.slice D1 n d1)) B A' p.h.new := Rd.below R2.out.2 (((below_gr HG.out).mono (Nat.le_trans HBW.out (by omega))).setCell (p := ⟨g, 4, none⟩) HBW.out _)
  have hs1 : (World.setCell w1 ⟨g, 4, none⟩ (.slice D1 n d1)).heap.size = w1.heap.size := by simp
  generalize (World.setCell w1 ⟨g, 4, none⟩ (.slice D1 n d1)) = X at *
  have R3 := Lib.hid (And.intro R2.out.1 r2)
  have B3 := Lib.hid b3; have B4 := Lib.hid b4; have O1 := Lib.hid o1; have H1 := Lib.hid h1; have HS1 := Lib.hid hs1
  clear b3 b4 o1 h1 r2 hs1
  have x0 : X.cell? ⟨g, 0, none⟩ = some (.int .i64 p.k) := B3.out.cell 0 rfl; have x1 : X.cell? ⟨g, 1, none⟩ = some (strV p.nm) := B3.out.cell 1 rfl; have x2 : X.cell? ⟨g, 2, none⟩ = some (strV p.to) := B3.out.cell 2 rfl; have x3 : X.cell? ⟨g, 3, none⟩ = some (.int .i64 p.h.pos) := B3.out.cell 3 rfl; have x4 : X.cell? ⟨g, 4, none⟩ = some (.slice D1 n d1) := B3.out.cell 4 rfl; have x5 : X.cell? ⟨g, 5, none⟩ = some (.slice A' n' c') := B3.out.cell 5 rfl
  go_upto_region 3 with (at_builtin; refine wpList_nil' rfl (.const (.slice none 0 0)) (.tmp 11) 49 rfl 9 j0 (.string ⟨#[]⟩) 16 Tryz.underlying49 hj hy0 hy1 hy2 rfl rfl B A' n' c' (p.h.new.map strV) rfl (by rw [List.length_map]; exact R3.out.1) R3.out.2 (strs_one _) (by unfold maxLen; omega) (by omega) ?_; intro D2 d2 w2 hA2 hg2; have b1 := B3.out.gr hg2 (nn _); have b2 := B4.out.gr hg2 (nn _); have f5 : w2.frozen? ⟨g, 5, none⟩ = false := b1.frozen 5; have z0 : w2.cell? ⟨g, 0, none⟩ = some (.int .i64 p.k) := b1.cell 0 rfl; have z1 : w2.cell? ⟨g, 1, none⟩ = some (strV p.nm) := b1.cell 1 rfl; have z2 : w2.cell? ⟨g, 2, none⟩ = some (strV p.to) := b1.cell 2 rfl; have z3 : w2.cell? ⟨g, 3, none⟩ = some (.int .i64 p.h.pos) := b1.cell 3 rfl; have z4 : w2.cell? ⟨g, 4, none⟩ = some (.slice D1 n d1) := b1.cell 4 rfl; have z5 : w2.cell? ⟨g, 5, none⟩ = some (.slice A' n' c') := b1.cell 5 rfl; have BC := Lib.hid b1; have BD := Lib.hid b2; have HA2 := Lib.hid hA2; have HG2 := Lib.hid hg2; clear b1 b2 hA2 hg2)
  clear x0 z0 x1 z1 x2 z2 x3 z3 x4 z4 x5 z5 f5
  have hl2 := HG2.out.size
  have hs1 := HS1.out
  have b3 : Blk (World.setCell w2 ⟨g, 5, none⟩ (.slice D2 n' d2)) g 55 #[.int .i64 p.k, strV p.nm, strV p.to, .int .i64 p.h.pos, .slice D1 n d1, .slice D2 n' d2] := BC.out.set 5 (.slice D2 n' d2)
  have b4 := BD.out.set_ne (show g + 1 ≠ g by omega) 5 (.slice D2 n' d2)
  have o1 := own_set (own_gr O1.out HG2.out) (show g < W.heap.size by omega) 5 (.slice D2 n' d2)
  have o2 := own_set HA2.out (show g < X.heap.size by omega) 5 (.slice D2 n' d2)
  have h1 : Below g w (World.setCell w2 ⟨g, 5, none⟩ (.slice D2 n' d2)) := (H1.out.trans ((below_gr HG2.out).mono (by omega))).setCell (p := ⟨g, 5, none⟩) (Nat.le_refl _) _
  generalize (World.setCell w2 ⟨g, 5, none⟩ (.slice D2 n' d2)) = Y at *
  have B5 := Lib.hid b3; have B6 := Lib.hid b4; have O2 := Lib.hid o1; have O3 := Lib.hid o2; have H2 := Lib.hid h1
  clear b3 b4 o1 o2 h1 hl1 hl2 hs1
  have x0 : Y.cell? ⟨g, 0, none⟩ = some (.int .i64 p.k) := B5.out.cell 0 rfl; have x1 : Y.cell? ⟨g, 1, none⟩ = some (strV p.nm) := B5.out.cell 1 rfl; have x2 : Y.cell? ⟨g, 2, none⟩ = some (strV p.to) := B5.out.cell 2 rfl; have x3 : Y.cell? ⟨g, 3, none⟩ = some (.int .i64 p.h.pos) := B5.out.cell 3 rfl; have x4 : Y.cell? ⟨g, 4, none⟩ = some (.slice D1 n d1) := B5.out.cell 4 rfl; have x5 : Y.cell? ⟨g, 5, none⟩ = some (.slice D2 n' d2) := B5.out.cell 5 rfl
  have z0 : Y.cell? ⟨g + 1, 0, none⟩ = some (.int .i64 0) := B6.out.cell 0 rfl; have z1 : Y.cell? ⟨g + 1, 1, none⟩ = some (strV []) := B6.out.cell 1 rfl; have z2 : Y.cell? ⟨g + 1, 2, none⟩ = some (strV []) := B6.out.cell 2 rfl; have z3 : Y.cell? ⟨g + 1, 3, none⟩ = some (.int .i64 0) := B6.out.cell 3 rfl; have z4 : Y.cell? ⟨g + 1, 4, none⟩ = some (.slice none 0 0) := B6.out.cell 4 rfl; have z5 : Y.cell? ⟨g + 1, 5, none⟩ = some (.slice none 0 0) := B6.out.cell 5 rfl
  have f0 : Y.frozen? ⟨g + 1, 0, none⟩ = false := B6.out.frozen 0; have f1 : Y.frozen? ⟨g + 1, 1, none⟩ = false := B6.out.frozen 1; have f2 : Y.frozen? ⟨g + 1, 2, none⟩ = false := B6.out.frozen 2; have f3 : Y.frozen? ⟨g + 1, 3, none⟩ = false := B6.out.frozen 3; have f4 : Y.frozen? ⟨g + 1, 4, none⟩ = false := B6.out.frozen 4; have f5 : Y.frozen? ⟨g + 1, 5, none⟩ = false := B6.out.frozen 5
  go_wp2
  have b5 := blk6 B6.out (.int .i64 p.k) (strV p.nm) (strV p.to) (.int .i64 p.h.pos) (.slice D1 n d1) (.slice D2 n' d2)
  have hb9 : Below g w (World.setCell (World.setCell (World.setCell (World.setCell (World.setCell (World.setCell Y ⟨g + 1, 0, none⟩ (.int .i64 p.k)) ⟨g + 1, 1, none⟩ (strV p.nm)) ⟨g + 1, 2, none⟩ (strV p.to)) ⟨g + 1, 3, none⟩ (.int .i64 p.h.pos)) ⟨g + 1, 4, none⟩ (.slice D1 n d1)) ⟨g + 1, 5, none⟩ (.slice D2 n' d2)) := ((((((H2.out.setCell (p := ⟨g + 1, 0, none⟩) (Nat.le_succ g) _).setCell (p := ⟨g + 1, 1, none⟩) (Nat.le_succ g) _).setCell (p := ⟨g + 1, 2, none⟩) (Nat.le_succ g) _).setCell (p := ⟨g + 1, 3, none⟩) (Nat.le_succ g) _).setCell (p := ⟨g + 1, 4, none⟩) (Nat.le_succ g) _).setCell (p := ⟨g + 1, 5, none⟩) (Nat.le_succ g) _)
  have o9 := own_set (own_set (own_set (own_set (own_set (own_set O2.out hgW 0 (.int .i64 p.k)) hgW 1 (strV p.nm)) hgW 2 (strV p.to)) hgW 3 (.int .i64 p.h.pos)) hgW 4 (.slice D1 n d1)) hgW 5 (.slice D2 n' d2)
  have hgX : g + 1 < X.heap.size := by have := HS1.out; have := HG.out.size; omega
  have o9' := own_set (own_set (own_set (own_set (own_set (own_set O3.out hgX 0 (.int .i64 p.k)) hgX 1 (strV p.nm)) hgX 2 (strV p.to)) hgX 3 (.int .i64 p.h.pos)) hgX 4 (.slice D1 n d1)) hgX 5 (.slice D2 n' d2)
  generalize (World.setCell (World.setCell (World.setCell (World.setCell (World.setCell (World.setCell Y ⟨g + 1, 0, none⟩ (.int .i64 p.k)) ⟨g + 1, 1, none⟩ (strV p.nm)) ⟨g + 1, 2, none⟩ (strV p.to)) ⟨g + 1, 3, none⟩ (.int .i64 p.h.pos)) ⟨g + 1, 4, none⟩ (.slice D1 n d1)) ⟨g + 1, 5, none⟩ (.slice D2 n' d2)) = X9 at *
  clear x0 z0 f0 x1 z1 f1 x2 z2 f2 x3 z3 f3 x4 z4 f4 x5 z5 f5
  have q0 : X9.cell? ⟨g + 1, 0, none⟩ = some (.int .i64 p.k) := b5.cell 0 rfl; have q1 : X9.cell? ⟨g + 1, 1, none⟩ = some (strV p.nm) := b5.cell 1 rfl; have q2 : X9.cell? ⟨g + 1, 2, none⟩ = some (strV p.to) := b5.cell 2 rfl; have q3 : X9.cell? ⟨g + 1, 3, none⟩ = some (.int .i64 p.h.pos) := b5.cell 3 rfl; have q4 : X9.cell? ⟨g + 1, 4, none⟩ = some (.slice D1 n d1) := b5.cell 4 rfl; have q5 : X9.cell? ⟨g + 1, 5, none⟩ = some (.slice D2 n' d2) := b5.cell 5 rfl
  refine bodyPost_ret (v := .agg #[.int .i64 p.k, strV p.nm, strV p.to, .int .i64 p.h.pos, .slice D1 n d1, .slice D2 n' d2]) (by simp [results, Tryz.results80, go_sem, q0, q1, q2, q3, q4, q5]) rfl ?_
  obtain ⟨_, _, e1, hk1, r1⟩ := rd_of_own o9
  obtain ⟨_, _, e2, hk2, r2⟩ := rd_of_own o9'
  cases e1; cases e2
  have v := HV0.out
  refine ⟨D1, d1, D2, d2, rfl, ⟨⟨v.h.l, v.h.l', hk1, hk2, v.h.m, v.h.m', r1, r2, v.h.p⟩, v.k, v.nm, v.to, v.s, v.s'⟩, ⟨(hi_own o9).mono (by rw [HGS.out]; omega), (hi_own o9').mono (by rw [HGS.out]; omega)⟩, by rw [HGS.out]; exact hb9⟩

end Pr
end Go.Proofs.YtfnhjflocfmcoaaGreat

set_option maxRecDepth 100000
namespace Go.Proofs.YtfnhjflocfmcoaaGreat
namespace Fl
open Tx Sq Hk Tr Pr
set_option linter.unusedVariables false

section
variable {α : Type} (P : α → α → Option (α × α))

/-- One passes a list, from the last one to the first one. -/
def one : List α → α → Option (α × List α)
  | [], q => some (q, [])
  | p :: a, q => (one a q).bind fun z => (P p z.1).map fun y => (y.1, y.2 :: z.2)
/-- Each of a list, in order, passes a list. -/
def passL : List α → List α → Option (List α × List α)
  | a, [] => some ([], a)
  | a, q :: b => (one P a q).bind fun z => (passL z.2 b).map fun y => (z.1 :: y.1, y.2)

theorem one_cons {p q x y q1 : α} {a a1 : List α} (h : one P a q = some (q1, a1)) (h1 : P p q1 = some (x, y)) : one P (p :: a) q = some (x, y :: a1) := by
  rw [one, h, Option.bind_some, h1]; rfl
theorem one_cons_inv {p q x : α} {a y : List α} (h : one P (p :: a) q = some (x, y)) : ∃ q1 a1 z, one P a q = some (q1, a1) ∧ P p q1 = some (x, z) ∧ y = z :: a1 := by
  rw [one] at h
  cases h1 : one P a q with
  | none => rw [h1] at h; cases h
  | some w =>
    rw [h1, Option.bind_some] at h
    cases h2 : P p w.1 with
    | none => rw [h2] at h; cases h
    | some v =>
      rw [h2] at h
      injection h with h; injection h with h3 h4
      exact ⟨w.1, w.2, v.2, rfl, by rw [h2, ← h3], h4.symm⟩
theorem passL_cons {q q1 : α} {a a1 b b1 a2 : List α} (h : one P a q = some (q1, a1)) (h1 : passL P a1 b = some (b1, a2)) : passL P a (q :: b) = some (q1 :: b1, a2) := by
  rw [passL, h, Option.bind_some, h1]; rfl
theorem passL_cons_inv {q : α} {a b x y : List α} (h : passL P a (q :: b) = some (x, y)) : ∃ q1 a1 b1, one P a q = some (q1, a1) ∧ passL P a1 b = some (b1, y) ∧ x = q1 :: b1 := by
  rw [passL] at h
  cases h1 : one P a q with
  | none => rw [h1] at h; cases h
  | some w =>
    rw [h1, Option.bind_some] at h
    cases h2 : passL P w.2 b with
    | none => rw [h2] at h; cases h
    | some v =>
      rw [h2] at h
      injection h with h; injection h with h3 h4
      exact ⟨w.1, w.2, v.1, rfl, by rw [h2, ← h4], h3.symm⟩
theorem passL_nil (a : List α) : passL P a [] = some ([], a) := by cases a <;> rfl
theorem one_len : ∀ {a : List α} {q x : α} {y : List α}, one P a q = some (x, y) → y.length = a.length
  | [], _, _, _, h => by injection h with h; injection h with _ h; rw [← h]
  | p :: a, q, x, y, h => by
    obtain ⟨q1, a1, z, h1, _, rfl⟩ := one_cons_inv P h
    rw [List.length_cons, one_len h1, List.length_cons]
theorem passL_len : ∀ {b a x y : List α}, passL P a b = some (x, y) → x.length = b.length ∧ y.length = a.length
  | [], a, x, y, h => by rw [passL_nil] at h; injection h with h; injection h with h1 h2; rw [← h1, ← h2]; exact ⟨rfl, rfl⟩
  | q :: b, a, x, y, h => by
    obtain ⟨q1, a1, b1, h1, h2, rfl⟩ := passL_cons_inv P h
    obtain ⟨e1, e2⟩ := passL_len h2
    exact ⟨by rw [List.length_cons, e1, List.length_cons], by rw [e2, one_len P h1]⟩
/-- A list passes two lists, one behind the other, as it passes their joint. -/
theorem one_app : ∀ (a b : List α) (q : α), one P (a ++ b) q = (one P b q).bind fun z => (one P a z.1).map fun y => (y.1, y.2 ++ z.2)
  | [], b, q => by
    rw [List.nil_append]
    cases h : one P b q with
    | none => rfl
    | some z => rfl
  | p :: a, b, q => by
    rw [List.cons_append, one, one_app a b q]
    cases h : one P b q with
    | none => rfl
    | some z =>
      simp only [Option.bind_some]
      rw [one]
      cases h1 : one P a z.1 with
      | none => rfl
      | some y =>
        simp only [Option.map_some, Option.bind_some]
        cases h2 : P p y.1 with
        | none => rfl
        | some v => rfl
theorem passL_app2 : ∀ (b a c : List α), passL P a (b ++ c) = (passL P a b).bind fun z => (passL P z.2 c).map fun y => (z.1 ++ y.1, y.2)
  | [], a, c => by
    rw [List.nil_append, passL_nil, Option.bind_some]
    cases h : passL P a c with
    | none => rfl
    | some z => rfl
  | q :: b, a, c => by
    rw [List.cons_append, passL, passL]
    cases h : one P a q with
    | none => rfl
    | some z =>
      simp only [Option.bind_some]
      rw [passL_app2 b z.2 c]
      cases h1 : passL P z.2 b with
      | none => rfl
      | some y =>
        simp only [Option.bind_some, Option.map_some]
        cases h2 : passL P y.2 c with
        | none => rfl
        | some v => rfl

variable {τ : Type} (D : τ → α → Option τ) (I : τ → Prop)
/-- What is done by each of a list, one behind the other. -/
def doL : τ → List α → Option τ
  | t, [] => some t
  | t, p :: a => (D t p).bind fun u => doL u a
theorem doL_cons {t u : τ} {p : α} {a : List α} (h : D t p = some u) : doL D t (p :: a) = doL D u a := by rw [doL, h]; rfl
theorem doL_cons_inv {t v : τ} {p : α} {a : List α} (h : doL D t (p :: a) = some v) : ∃ u, D t p = some u ∧ doL D u a = some v := by
  rw [doL] at h
  cases h1 : D t p with
  | none => rw [h1] at h; cases h
  | some u => rw [h1] at h; exact ⟨u, rfl, h⟩
theorem doL_app : ∀ (a b : List α) (t : τ), doL D t (a ++ b) = (doL D t a).bind fun u => doL D u b
  | [], _, _ => rfl
  | p :: a, b, t => by
    rw [List.cons_append, doL, doL]
    cases h : D t p with
    | none => rfl
    | some u => simp only [Option.bind_some]; exact doL_app a b u
theorem doL_inv (hI : ∀ {t u p}, I t → D t p = some u → I u) : ∀ {a : List α} {t u : τ}, I t → doL D t a = some u → I u
  | [], _, _, h, e => by injection e with e; rw [← e]; exact h
  | p :: a, t, u, h, e => by
    obtain ⟨v, h1, h2⟩ := doL_cons_inv D e
    exact doL_inv hI (hI h h1) h2
/-- Where two that are told do the same, lists do. -/
theorem one_same (hI : ∀ {t u p}, I t → D t p = some u → I u) (hP : ∀ {t u v p q x y}, I t → P p q = some (x, y) → D t p = some u → D u q = some v → ∃ w, D t x = some w ∧ D w y = some v) :
    ∀ {a : List α} {q x : α} {y : List α} {t u v : τ}, I t → one P a q = some (x, y) → doL D t a = some u → D u q = some v → ∃ w, D t x = some w ∧ doL D w y = some v
  | [], q, x, y, t, u, v, hi, h, h1, h2 => by
    injection h with h; injection h with e1 e2; subst e1 e2
    injection h1 with h1; subst h1
    exact ⟨v, h2, rfl⟩
  | p :: a, q, x, y, t, u, v, hi, h, h1, h2 => by
    obtain ⟨q1, a1, z, e1, e2, rfl⟩ := one_cons_inv P h
    obtain ⟨t1, d1, d2⟩ := doL_cons_inv D h1
    obtain ⟨w, d3, d4⟩ := one_same hI hP (hI hi d1) e1 d2 h2
    obtain ⟨w1, d5, d6⟩ := hP hi e2 d1 d3
    exact ⟨w1, d5, by rw [doL_cons D d6]; exact d4⟩
theorem passL_same (hI : ∀ {t u p}, I t → D t p = some u → I u) (hP : ∀ {t u v p q x y}, I t → P p q = some (x, y) → D t p = some u → D u q = some v → ∃ w, D t x = some w ∧ D w y = some v) :
    ∀ {b a x y : List α} {t u v : τ}, I t → passL P a b = some (x, y) → doL D t a = some u → doL D u b = some v → ∃ w, doL D t x = some w ∧ doL D w y = some v
  | [], a, x, y, t, u, v, hi, h, h1, h2 => by
    rw [passL_nil] at h; injection h with h; injection h with e1 e2; subst e1 e2
    injection h2 with h2; subst h2
    exact ⟨t, rfl, h1⟩
  | q :: b, a, x, y, t, u, v, hi, h, h1, h2 => by
    obtain ⟨q1, a1, b1, e1, e2, rfl⟩ := passL_cons_inv P h
    obtain ⟨u1, d1, d2⟩ := doL_cons_inv D h2
    obtain ⟨w, d3, d4⟩ := one_same P D I hI hP hi e1 h1 d1
    obtain ⟨w1, d5, d6⟩ := passL_same hI hP (hI hi d3) e2 d4 d2
    exact ⟨w1, by rw [doL_cons D d3]; exact d5, d6⟩
end

/-- A tree changed, or nothing. -/
def dP (t : TR) (p : Ch) : Option TR := if (doP t p).1 = 0 then some (doP t p).2 else none
theorem dP_some {t u : TR} {p : Ch} : dP t p = some u ↔ doP t p = (0, u) := by
  unfold dP
  constructor
  · intro h
    split at h
    · rename_i h0
      injection h with h
      rw [← h]
      exact Prod.ext h0 rfl
    · cases h
  · intro h
    rw [h]; rfl
/-- What a tree becomes by changes: the first error, or a tree. -/
def doF : TR → List Ch → Int × TR
  | t, [] => (0, t)
  | t, p :: a => if (doP t p).1 = 0 then doF (doP t p).2 a else ((doP t p).1, [])
theorem doF_cons_ok {t u : TR} {p : Ch} {a : List Ch} (h : doP t p = (0, u)) : doF t (p :: a) = doF u a := by rw [doF, h]; rfl
theorem doF_cons_no {t : TR} {p : Ch} {a : List Ch} (h : (doP t p).1 ≠ 0) : doF t (p :: a) = ((doP t p).1, []) := by rw [doF, if_neg h]
theorem doF_some : ∀ {a : List Ch} {t u : TR}, doL dP t a = some u ↔ doF t a = (0, u)
  | [], t, u => by
    constructor
    · intro h; injection h with h; rw [h]; rfl
    · intro h; injection h with _ h; rw [← h]; rfl
  | p :: a, t, u => by
    by_cases h0 : (doP t p).1 = 0
    · have e : doP t p = (0, (doP t p).2) := Prod.ext h0 rfl
      rw [doL_cons dP (dP_some.2 e), doF_cons_ok e]
      exact doF_some
    · rw [doF_cons_no h0]
      constructor
      · intro h
        obtain ⟨v, h1, _⟩ := doL_cons_inv dP h
        rw [dP_some] at h1
        exact absurd (by rw [h1]) h0
      · intro h
        injection h with h _
        exact absurd h h0
def turnF (l : List Ch) : List Ch := (l.map turnP).reverse
abbrev passF : List Ch → List Ch → Option (List Ch × List Ch) := passL passP
end Fl
end Go.Proofs.YtfnhjflocfmcoaaGreat

namespace Go.Proofs.YtfnhjflocfmcoaaGreat
open Go.RowKit
set_option linter.unusedVariables false
namespace Fl
open Tx Df Sq Hk Tr Pr

/-- Two memories are alike in the blocks that S names. -/
def Alike (S : Nat → Prop) (W W' : World) : Prop := ∀ b, S b → b < W.heap.size → W'.heap[b]? = W.heap[b]?
section
variable {W W' W1 : World} {S T : Nat → Prop} {B b : Nat}
theorem Alike.mono (h : Alike T W W') (hs : ∀ b, S b → T b) : Alike S W W' := fun b hb hl => h b (hs b hb) hl
theorem alike_below (hb : Below B W W') : Alike (· < B) W W' := fun b h _ => hb.block b h
theorem alike_gr {row : Option Nat} (hg : W.grownBy W' row) : Alike (fun b => some b ≠ row) W W' := fun b h hl => hg.block b hl h
theorem alike_set (W : World) (b j : Nat) (v : Value) : Alike (· ≠ b) W (W.setCell ⟨b, j, none⟩ v) := fun k h hl => (grownBy_set W b j v).block k hl (by simpa using h)
theorem alike_drewN (S : Nat → Prop) (W : World) (d : Nat) : Alike S W (W.drewN d) := fun _ _ _ => rfl
end

/-- The address A leads, in a block that S names, to the cells xs; or there are none. -/
def RdG (w : World) (S : Nat → Prop) (A : Option Addr) (xs : List Value) : Prop := xs = [] ∨ ∃ a, A = some a ∧ S a.block ∧ ∀ (j : Nat) u, xs[j]? = some u → w.cell? (a.add j) = some u
section
variable {W W' : World} {S T : Nat → Prop} {A : Option Addr} {xs : List Value} {B : Nat} {ls : List (List UInt8)}
theorem RdG.mono (h : RdG W S A xs) (hs : ∀ b, S b → T b) : RdG W T A xs := h.imp id fun ⟨a, e, h1, h2⟩ => ⟨a, e, hs _ h1, h2⟩
theorem RdG.to (h : RdG W S A xs) (ha : Alike S W W') : RdG W' S A xs := h.imp id fun ⟨a, e, h1, h2⟩ => ⟨a, e, h1, fun j u hu => by
  have hc := h2 j u hu
  exact (World.cell?_of_block (ha _ (by rw [add_block]; exact h1) (World.block_lt_of_cell? W _ hc))).trans hc⟩
theorem RdG.rd (h : RdG W (· < B) A (ls.map strV)) : RdS W B A ls := h
end

/-- Two slice values that read, in blocks that S names, as a change's lines. -/
structure PG (w : World) (S : Nat → Prop) (A : Option Addr) (n c : Nat) (B : Option Addr) (m d : Nat) (p : Ch) : Prop where
  l : p.h.old.length = n
  l' : p.h.new.length = m
  k : n ≤ c
  k' : m ≤ d
  mm : n ≤ maxLen
  mm' : m ≤ maxLen
  r : RdG w S A (p.h.old.map strV)
  r' : RdG w S B (p.h.new.map strV)
  pp : I64 p.h.pos
  kk : I64 p.k
  nm : p.nm.length ≤ maxLen
  to : p.to.length ≤ maxLen
  s : ∀ x ∈ p.h.old, x.length ≤ maxLen
  s' : ∀ x ∈ p.h.new, x.length ≤ maxLen
section
variable {W W' : World} {S T : Nat → Prop} {A B : Option Addr} {n c m d N : Nat} {p : Ch}
theorem PG.mono (h : PG W S A n c B m d p) (hs : ∀ b, S b → T b) : PG W T A n c B m d p := ⟨h.l, h.l', h.k, h.k', h.mm, h.mm', h.r.mono hs, h.r'.mono hs, h.pp, h.kk, h.nm, h.to, h.s, h.s'⟩
theorem PG.to_ (h : PG W S A n c B m d p) (ha : Alike S W W') : PG W' S A n c B m d p := ⟨h.l, h.l', h.k, h.k', h.mm, h.mm', h.r.to ha, h.r'.to ha, h.pp, h.kk, h.nm, h.to, h.s, h.s'⟩
theorem PG.pv (h : PG W (· < N) A n c B m d p) : PV W N A n c B m d p := ⟨⟨h.l, h.l', h.k, h.k', h.mm, h.mm', h.r, h.r', h.pp⟩, h.kk, h.nm, h.to, h.s, h.s'⟩
/-- A change whose lines are in memory that is new. -/
theorem rdG_hi {ls : List (List UInt8)} {lo : Nat} (h : RdS W N A ls) (hi : Hi lo A) : RdG W (fun b => lo ≤ b ∧ b < N) A (ls.map strV) := by
  rcases h with h | ⟨a, e, h1, h2⟩
  · exact .inl h
  · exact .inr ⟨a, e, ⟨hi a e, h1⟩, h2⟩
theorem pg_hi {lo : Nat} (h : PV W N A n c B m d p) (hi : Hi lo A) (hi' : Hi lo B) : PG W (fun b => lo ≤ b ∧ b < N) A n c B m d p :=
  ⟨h.h.l, h.h.l', h.h.k, h.h.k', h.h.m, h.h.m', rdG_hi h.h.r hi, rdG_hi h.h.r' hi', h.h.p, h.k, h.nm, h.to, h.s, h.s'⟩
end

/-- The cells of a change, the k-th of a row at the address a. -/
structure PrAt (w : World) (S : Nat → Prop) (a : Addr) (k : Nat) (x : Ch) : Prop where
  c0 : w.cell? (a.add (k * 6)) = some (.int .i64 x.k)
  c1 : w.cell? ⟨(a.add (k * 6)).block, (a.add (k * 6)).off + 1, none⟩ = some (strV x.nm)
  c2 : w.cell? ⟨(a.add (k * 6)).block, (a.add (k * 6)).off + 2, none⟩ = some (strV x.to)
  c3 : w.cell? ⟨(a.add (k * 6)).block, (a.add (k * 6)).off + 3, none⟩ = some (.int .i64 x.h.pos)
  c4 : ∃ A n c B m d, w.cell? ⟨(a.add (k * 6)).block, (a.add (k * 6)).off + 4, none⟩ = some (.slice A n c) ∧ w.cell? ⟨(a.add (k * 6)).block, (a.add (k * 6)).off + 5, none⟩ = some (.slice B m d) ∧ PG w S A n c B m d x

/-- The address A leads, in blocks that S names, to changes; or there are none. -/
def RdP (w : World) (S : Nat → Prop) (A : Option Addr) (l : List Ch) : Prop :=
  l = [] ∨ ∃ a, A = some a ∧ S a.block ∧ ∀ (k : Nat) x, l[k]? = some x → PrAt w S a k x
section
variable {W W' : World} {S T : Nat → Prop} {A : Option Addr} {l : List Ch} {N : Nat}
theorem PrAt.mono {a : Addr} {k : Nat} {x : Ch} (h : PrAt W S a k x) (hs : ∀ b, S b → T b) : PrAt W T a k x := by
  obtain ⟨c0, c1, c2, c3, A, n, c, B, m, d, c4, c5, c6⟩ := h
  exact ⟨c0, c1, c2, c3, A, n, c, B, m, d, c4, c5, c6.mono hs⟩
theorem cell_to {p : Addr} {u : Value} (ha : Alike S W W') (hp : S p.block) (hc : W.cell? p = some u) : W'.cell? p = some u := (World.cell?_of_block (ha _ hp (World.block_lt_of_cell? W _ hc))).trans hc
theorem PrAt.to {a : Addr} {k : Nat} {x : Ch} (h : PrAt W S a k x) (hS : S a.block) (ha : Alike S W W') : PrAt W' S a k x := by
  obtain ⟨c0, c1, c2, c3, A, n, c, B, m, d, c4, c5, c6⟩ := h
  have hb : S (a.add (k * 6)).block := by rw [add_block]; exact hS
  exact ⟨cell_to ha hb c0, cell_to ha hb c1, cell_to ha hb c2, cell_to ha hb c3, A, n, c, B, m, d, cell_to ha hb c4, cell_to ha hb c5, c6.to_ ha⟩
theorem RdP.mono (h : RdP W S A l) (hs : ∀ b, S b → T b) : RdP W T A l := h.imp id fun ⟨a, e, h1, h2⟩ => ⟨a, e, hs _ h1, fun k x hx => (h2 k x hx).mono hs⟩
theorem RdP.to (h : RdP W S A l) (ha : Alike S W W') : RdP W' S A l := h.imp id fun ⟨a, e, h1, h2⟩ => ⟨a, e, h1, fun k x hx => (h2 k x hx).to h1 ha⟩
theorem RdP.below {B : Nat} (h : RdP W (· < B) A l) (hb : Below B W W') : RdP W' (· < B) A l := h.to (alike_below hb)
theorem RdP.mv (h : RdP W (· < W.heap.size) A l) (hb : Below W.heap.size W W') : RdP W' (· < W'.heap.size) A l := (h.below hb).mono fun b hb' => Nat.lt_of_lt_of_le hb' hb.size
theorem RdP.drewN (h : RdP W S A l) (d : Nat) : RdP (W.drewN d) S A l := h.to (alike_drewN S W d)
theorem RdP.nil (W : World) (S : Nat → Prop) (A : Option Addr) : RdP W S A [] := .inl rfl
theorem RdP.at_ (h : RdP W S A l) {k : Nat} (hk : k < l.length) : ∃ a, A = some a ∧ S a.block ∧ PrAt W S a k l[k] := by
  rcases h with rfl | ⟨a, e, hlt, hc⟩
  · exact absurd hk (by simp)
  · exact ⟨a, e, hlt, hc k _ (List.getElem?_eq_getElem hk)⟩
/-- A part of a list. -/
theorem RdP.tail {x : Ch} {a : Addr} (h : RdP W S (some a) (x :: l)) : RdP W S (some (a.add 6)) l := by
  rcases h with h | ⟨a', e, h1, h2⟩
  · cases h
  · injection e with e
    subst e
    refine .inr ⟨_, rfl, by rw [add_block]; exact h1, fun k y hy => ?_⟩
    have := h2 (k + 1) y (by simpa using hy)
    have ea : (a.add 6).add (k * 6) = a.add ((k + 1) * 6) := by rw [add_add]; congr 1; omega
    obtain ⟨c0, c1, c2, c3, c4⟩ := this
    exact ⟨by rw [ea]; exact c0, by rw [ea]; exact c1, by rw [ea]; exact c2, by rw [ea]; exact c3, by rw [ea]; exact c4⟩
end

/-- The cells of changes, as far as they go; their lines lie in blocks that S names. -/
def PCells (W : World) (S : Nat → Prop) (l : List Ch) (xs : List Value) : Prop :=
  ∀ (k : Nat) x, l[k]? = some x → ∃ A n c B m d, xs[k * 6]? = some (.int .i64 x.k) ∧ xs[k * 6 + 1]? = some (strV x.nm) ∧ xs[k * 6 + 2]? = some (strV x.to) ∧ xs[k * 6 + 3]? = some (.int .i64 x.h.pos) ∧ xs[k * 6 + 4]? = some (.slice A n c) ∧ xs[k * 6 + 5]? = some (.slice B m d) ∧ PG W S A n c B m d x
section
variable {W W' : World} {S T : Nat → Prop} {l u : List Ch} {xs ys : List Value}
theorem PCells.mono (h : PCells W S l xs) (hs : ∀ b, S b → T b) : PCells W T l xs := fun k x hx => by
  obtain ⟨A, n, c, B, m, d, h0, h1, h2, h3, h4, h5, h6⟩ := h k x hx
  exact ⟨A, n, c, B, m, d, h0, h1, h2, h3, h4, h5, h6.mono hs⟩
theorem PCells.to (h : PCells W S l xs) (ha : Alike S W W') : PCells W' S l xs := fun k x hx => by
  obtain ⟨A, n, c, B, m, d, h0, h1, h2, h3, h4, h5, h6⟩ := h k x hx
  exact ⟨A, n, c, B, m, d, h0, h1, h2, h3, h4, h5, h6.to_ ha⟩
theorem PCells.nil (W : World) (S : Nat → Prop) (xs : List Value) : PCells W S [] xs := fun k x hx => by simp at hx
theorem PCells.one {A B : Option Addr} {n c m d : Nat} {x : Ch} (h : PG W S A n c B m d x) : PCells W S [x] [.int .i64 x.k, strV x.nm, strV x.to, .int .i64 x.h.pos, .slice A n c, .slice B m d] := fun k y hy => by
  cases k with
  | zero => cases hy; exact ⟨A, n, c, B, m, d, rfl, rfl, rfl, rfl, rfl, rfl, h⟩
  | succ k => simp at hy
theorem PCells.append (h : PCells W S l xs) (hl : xs.length = l.length * 6) (h' : PCells W S u ys) : PCells W S (l ++ u) (xs ++ ys) := fun k x hx => by
  by_cases hk : k < l.length
  · rw [List.getElem?_append_left hk] at hx
    obtain ⟨A, n, c, B, m, d, h0, h1, h2, h3, h4, h5, h6⟩ := h k x hx
    have hle : ∀ j, j < 6 → k * 6 + j < xs.length := fun j hj => by omega
    exact ⟨A, n, c, B, m, d, by rw [List.getElem?_append_left (by omega)]; exact h0, by rw [List.getElem?_append_left (by omega)]; exact h1, by rw [List.getElem?_append_left (by omega)]; exact h2, by rw [List.getElem?_append_left (by omega)]; exact h3, by rw [List.getElem?_append_left (by omega)]; exact h4, by rw [List.getElem?_append_left (by omega)]; exact h5, h6⟩
  · rw [List.getElem?_append_right (by omega)] at hx
    obtain ⟨A, n, c, B, m, d, h0, h1, h2, h3, h4, h5, h6⟩ := h' _ x hx
    have e : ∀ j, k * 6 + j - xs.length = (k - l.length) * 6 + j := fun j => by omega
    refine ⟨A, n, c, B, m, d, ?_, ?_, ?_, ?_, ?_, ?_, h6⟩
    · rw [List.getElem?_append_right (by omega), show k * 6 - xs.length = (k - l.length) * 6 by omega]; exact h0
    · rw [List.getElem?_append_right (by omega), e]; exact h1
    · rw [List.getElem?_append_right (by omega), e]; exact h2
    · rw [List.getElem?_append_right (by omega), e]; exact h3
    · rw [List.getElem?_append_right (by omega), e]; exact h4
    · rw [List.getElem?_append_right (by omega), e]; exact h5
theorem one6 : ∀ {u : List Ch} {ys : List Value}, PCells W S u ys → ys.length = u.length * 6 → ∀ y ∈ ys, Value.oneCell' y = true := fun {u ys} h hl y hy => by
  obtain ⟨j, hj, rfl⟩ := List.mem_iff_getElem.1 hy
  have hk : j / 6 < u.length := by omega
  obtain ⟨A, n, c, B, m, d, h0, h1, h2, h3, h4, h5, h6⟩ := h (j / 6) _ (List.getElem?_eq_getElem hk)
  obtain ⟨v, hv⟩ : ∃ v, ys[j] = v := ⟨_, rfl⟩
  have hj' : ys[j]? = some v := by rw [← hv]; exact List.getElem?_eq_getElem hj
  rw [hv]
  have hm : j % 6 < 6 := Nat.mod_lt _ (by decide)
  have hd : j / 6 * 6 + j % 6 = j := by omega
  rw [← hd] at hj'
  generalize j % 6 = r at *
  match r, hm with
  | 0, _ => rw [Nat.add_zero] at hj'; rw [h0] at hj'; injection hj' with e; rw [← e]; rfl
  | 1, _ => rw [h1] at hj'; injection hj' with e; rw [← e]; rfl
  | 2, _ => rw [h2] at hj'; injection hj' with e; rw [← e]; rfl
  | 3, _ => rw [h3] at hj'; injection hj' with e; rw [← e]; rfl
  | 4, _ => rw [h4] at hj'; injection hj' with e; rw [← e]; rfl
  | 5, _ => rw [h5] at hj'; injection hj' with e; rw [← e]; rfl
end

/-- The blocks that there are, but for one. -/
def Out (W : World) (row : Option Nat) : Nat → Prop := fun b => b < W.heap.size ∧ some b ≠ row
theorem out_gr {W W' : World} {row : Option Nat} (hg : W.grownBy W' row) : Alike (Out W row) W W' := fun b h hl => hg.block b hl h.2
theorem out_up {W W' : World} {row : Option Nat} (hs : W.heap.size ≤ W'.heap.size) : ∀ b, Out W row b → Out W' row b := fun b h => ⟨Nat.lt_of_lt_of_le h.1 hs, h.2⟩
theorem out_lt {W : World} {row : Option Nat} {B : Nat} (hB : B ≤ W.heap.size) (hr : ∀ g, row = some g → B ≤ g) : ∀ b, b < B → Out W row b := fun b hb => ⟨Nat.lt_of_lt_of_le hb hB, fun e => by have := hr b e.symm; omega⟩
theorem PCells.gr {W W' : World} {row : Option Nat} {l : List Ch} {xs : List Value} (h : PCells W (Out W row) l xs) (hg : W.grownBy W' row) : PCells W' (Out W' row) l xs := (h.to (out_gr hg)).mono (out_up hg.size)

/-- Changes in a row of one's own. -/
def OwnP (W : World) (base : Nat) (v : Value) (l : List Ch) : Prop := ∃ xs, W.ownsRow base 55 6 v l.length xs ∧ PCells W (Out W v.ownBlock) l xs
section
variable {W W' : World} {base : Nat} {v : Value} {l : List Ch}
theorem ownP_nil (W : World) (base : Nat) : OwnP W base (.slice none 0 0) [] := ⟨[], World.ownsRow_nil _ _ _ _, PCells.nil _ _ _⟩
theorem ownP_ge (h : OwnP W base v l) : ∀ k, v.ownBlock = some k → base ≤ k := fun k hk => (h.elim fun xs h => own_ge h.1 k hk)
theorem OwnP.below (h : OwnP W base v l) (hb : Below W.heap.size W W') : OwnP W' base v l := by
  obtain ⟨xs, h1, h2⟩ := h
  exact ⟨xs, own_gr h1 (below_gr_row hb), h2.gr (gr_none (below_gr_row hb))⟩
theorem OwnP.drewN (h : OwnP W base v l) (d : Nat) : OwnP (W.drewN d) base v l := h.below (below_drewN (Below.refl _ _) d)
/-- A row of changes of one's own is read as changes. -/
theorem rdP_own (h : OwnP W base v l) : ∃ A c, v = .slice A l.length c ∧ l.length ≤ c ∧ RdP W (· < W.heap.size) A l ∧ Hi base A := by
  obtain ⟨xs, hr, hF⟩ := h
  have hr0 := hr
  rcases hr.2 with ⟨rfl, h0⟩ | ⟨g, cap, cur, rfl, hbg, hg, hc, _⟩
  · have : l = [] := List.eq_nil_of_length_eq_zero h0
    subst this
    exact ⟨none, 0, rfl, Nat.le_refl _, .inl rfl, hi_none _⟩
  · refine ⟨_, cap, rfl, hc, .inr ⟨_, rfl, (Array.getElem?_eq_some_iff.1 hg).1, fun k x hx => ?_⟩, hi_own hr0⟩
    obtain ⟨A, n, c, B, m, d, h0, h1, h2, h3, h4, h5, h6⟩ := hF k x hx
    have hk : k < l.length := (List.getElem?_eq_some_iff.1 hx).1
    have ea : (⟨g, 0, none⟩ : Addr).add (k * 6) = ⟨g, k * 6, none⟩ := by unfold Addr.add; split <;> simp_all
    refine ⟨?_, ?_, ?_, ?_, A, n, c, B, m, d, ?_, ?_, h6.mono fun b hb => hb.1⟩
    · rw [ea, hr0.cellAt (k * 6) (by omega)]; exact h0
    · rw [ea]; show W.cell? ⟨g, k * 6 + 1, none⟩ = _; rw [hr0.cellAt (k * 6 + 1) (by omega)]; exact h1
    · rw [ea]; show W.cell? ⟨g, k * 6 + 2, none⟩ = _; rw [hr0.cellAt (k * 6 + 2) (by omega)]; exact h2
    · rw [ea]; show W.cell? ⟨g, k * 6 + 3, none⟩ = _; rw [hr0.cellAt (k * 6 + 3) (by omega)]; exact h3
    · rw [ea]; show W.cell? ⟨g, k * 6 + 4, none⟩ = _; rw [hr0.cellAt (k * 6 + 4) (by omega)]; exact h4
    · rw [ea]; show W.cell? ⟨g, k * 6 + 5, none⟩ = _; rw [hr0.cellAt (k * 6 + 5) (by omega)]; exact h5
end

theorem add_off (a : Addr) (k j : Nat) (hj : 0 < j) : (⟨(a.add k).block, (a.add k).off + j, none⟩ : Addr) = a.add (k + j) := by
  unfold Addr.add
  by_cases h : k = 0
  · subst h; simp [Nat.ne_of_gt hj]
  · simp [h, Nat.add_assoc]

/-- The cells of a list that is read. -/
theorem flatP {w : World} {S : Nat → Prop} {A : Option Addr} {l : List Ch} (h : RdP w S A l) :
    ∃ xs : List Value, xs.length = l.length * 6 ∧ PCells w S l xs ∧ (xs = [] ∨ ∃ a, A = some a ∧ ∀ (j : Nat) u, xs[j]? = some u → w.cell? (a.add j) = some u) := by
  rcases h with rfl | ⟨a, rfl, hlt, hc⟩
  · exact ⟨[], rfl, PCells.nil _ _ _, .inl rfl⟩
  · have key : ∀ (u : List Ch) (p : Nat), (∀ (k : Nat) x, u[k]? = some x → PrAt w S a (p + k) x) → ∃ xs : List Value, xs.length = u.length * 6 ∧ PCells w S u xs ∧ ∀ (j : Nat) v, xs[j]? = some v → w.cell? (a.add (p * 6 + j)) = some v := by
      intro u
      induction u with
      | nil => intro p _; exact ⟨[], rfl, PCells.nil _ _ _, fun j v hv => by simp at hv⟩
      | cons x u ih =>
        intro p hu
        obtain ⟨xs, h1, h2, h3⟩ := ih (p + 1) fun k y hy => by
          have := hu (k + 1) y (by simpa using hy)
          rw [show p + 1 + k = p + (k + 1) by omega]; exact this
        obtain ⟨c0, c1, c2, c3, A, n, c, B, m, d, c4, c5, c6⟩ := hu 0 x rfl
        rw [Nat.add_zero] at c0 c1 c2 c3 c4 c5
        rw [add_off _ _ _ (by decide)] at c1 c2 c3 c4 c5
        refine ⟨[.int .i64 x.k, strV x.nm, strV x.to, .int .i64 x.h.pos, .slice A n c, .slice B m d] ++ xs, by simp [h1]; omega, PCells.append (l := [x]) (PCells.one c6) rfl h2, fun j v hv => ?_⟩
        rcases j with _ | _ | _ | _ | _ | _ | j
        · cases hv; exact c0
        · cases hv; exact c1
        · cases hv; exact c2
        · cases hv; exact c3
        · cases hv; exact c4
        · cases hv; exact c5
        · have := h3 j v (by simpa using hv)
          rw [show p * 6 + (j + 6) = (p + 1) * 6 + j by omega]; exact this
    obtain ⟨xs, h1, h2, h3⟩ := key l 0 fun k x hx => by rw [Nat.zero_add]; exact hc k x hx
    exact ⟨xs, h1, h2, .inr ⟨a, rfl, fun j u hu => by have := h3 j u hu; rw [Nat.zero_mul, Nat.zero_add] at this; exact this⟩⟩

theorem info_prim : (Tryz.prog.info? 55).map (fun i => (i.zero, i.size, i.bytes)) = some (some (.agg #[.int .i64 0, .string ⟨#[]⟩, .string ⟨#[]⟩, .int .i64 0, .slice none 0 0, .slice none 0 0]), 6, 96) := by kernel_rfl

/-- Changes appended onto a row of one's own. -/
theorem run_ownP {W : World} {ty : TypeId} {base m c : Nat} {v : Value} {A : Option Addr} {l u : List Ch} {ys : List Value} (h : OwnP W base v l) (hu : PCells W (Out W v.ownBlock) u ys) (hyl : ys.length = u.length * 6) (hsrc : ys = [] ∨ ∃ a, A = some a ∧ ∀ (j : Nat) x, ys[j]? = some x → W.cell? (a.add j) = some x)
    (hm : u.length = m) (hn : l.length + m ≤ 100000) (hbase : base ≤ W.heap.size) :
    ∃ v' W', (Builtin.append_ #[39, 39] ty #[v, .slice A m c]).run Tryz.prog W = .ok v' W' ∧ OwnP W' base v' (l ++ u) ∧ W.grownBy W' v.ownBlock := by
  obtain ⟨i0, hi0, hz0, hz1, hz2⟩ := info_parts info_prim
  obtain ⟨xs, hrow, hF⟩ := h
  have h1 := one6 hu hyl
  by_cases h0 : m = 0
  · have hu0 : u = [] := List.eq_nil_of_length_eq_zero (by omega)
    subst hu0
    obtain ⟨A0, c0, rfl, hc0, _⟩ := rdP_own ⟨xs, hrow, hF⟩
    subst h0
    exact ⟨_, W, run_append_none Tryz.underlying39 hi0 hc0, by rw [List.append_nil]; exact ⟨xs, hrow, hF⟩, ⟨rfl, rfl, rfl, Nat.le_refl _, fun _ _ _ => rfl⟩⟩
  · obtain ⟨a, rfl, hcell⟩ : ∃ a, A = some a ∧ ∀ (j : Nat) x, ys[j]? = some x → W.cell? (a.add j) = some x := by
      rcases hsrc with hy | h
      · rw [hy] at hyl; simp at hyl; omega
      · exact h
    obtain ⟨g, cap, W', hr, r1, r2, r3, r4⟩ := run_append_lies (P := Tryz.prog) (w := W) 39 ty base 55 i0 _ 6 96 Tryz.underlying39 hi0 hz0 hz1 hz2 rfl (by decide) v l.length xs hrow a m c ys (by rw [hyl, hm]) hcell h1 (by omega) (by unfold maxLen; omega) (by omega) hbase W.heap.size rfl
    refine ⟨_, W', hr, ⟨xs ++ ys, by rw [List.length_append, hm]; exact r1, ?_⟩, r2⟩
    have hJ := (hF.append hrow.1 hu)
    rcases r3 with r3 | r3
    · rw [r3] at hJ r2
      exact hJ.gr r2
    · refine (hJ.to (out_gr r2)).mono fun b hb => ⟨Nat.lt_of_lt_of_le hb.1 r2.size, fun e => ?_⟩
      injection e with e
      have e' : b = g := e
      have := hb.1
      omega

theorem wpList_ownP {W : World} {ops : Array Oper} {rest : List Oper} {o : Oper} {a : Act} {Q : Exit → Act → World → Prop} (hgd : o.guard = none) (s x : Operand)
    (ho : o.op = .call { callee := .builtin .append, args := #[s, x], argTypes := #[39, 39] })
    (base m c : Nat) (v : Value) (A : Option Addr) (l u : List Ch) (ys : List Value) (hs : a.eval s = v) (hx : a.eval x = .slice A m c) (h : OwnP W base v l) (hu : PCells W (Out W v.ownBlock) u ys) (hyl : ys.length = u.length * 6) (hsrc : ys = [] ∨ ∃ a, A = some a ∧ ∀ (j : Nat) x, ys[j]? = some x → W.cell? (a.add j) = some x)
    (hm : u.length = m) (hn : l.length + m ≤ 100000) (hbase : base ≤ W.heap.size)
    (hK : ∀ v' W', OwnP W' base v' (l ++ u) → W.grownBy W' v.ownBlock → wpList Tryz.prog ops Q rest (a.put o.dst v') W') : wpList Tryz.prog ops Q (o :: rest) a W := by
  refine wpList_plain hgd fun K hK' => ?_
  obtain ⟨v', W', hrun, h2, h3⟩ := run_ownP (ty := o.type) (c := c) h hu hyl hsrc hm hn hbase
  unfold Oper.wp execOp
  simp only [ho, resolve, invoke, builtin, Sem.run_bind, Sem.run_pure, Result.andThen_ok, List.map_toArray, List.map_cons, List.map_nil, hs, hx, hrun]
  exact hK' _ _ (hK v' W' h2 h3)
/-- The same of a list that is read below a block that the row lies behind. -/
theorem wpList_ownPL {W : World} {ops : Array Oper} {rest : List Oper} {o : Oper} {a : Act} {Q : Exit → Act → World → Prop} (hgd : o.guard = none) (s x : Operand)
    (ho : o.op = .call { callee := .builtin .append, args := #[s, x], argTypes := #[39, 39] })
    (base N m c : Nat) (v : Value) (A : Option Addr) (l u : List Ch) (hs : a.eval s = v) (hx : a.eval x = .slice A m c) (h : OwnP W base v l) (hu : RdP W (· < N) A u) (hN : N ≤ base)
    (hm : u.length = m) (hn : l.length + m ≤ 100000) (hbase : base ≤ W.heap.size)
    (hK : ∀ v' W', OwnP W' base v' (l ++ u) → W.grownBy W' v.ownBlock → wpList Tryz.prog ops Q rest (a.put o.dst v') W') : wpList Tryz.prog ops Q (o :: rest) a W := by
  obtain ⟨ys, h1, h2, h3⟩ := flatP hu
  exact wpList_ownP hgd s x ho base m c v A l u ys hs hx h (h2.mono (out_lt (Nat.le_trans hN hbase) fun g e => Nat.le_trans hN (ownP_ge h g e))) h1 h3 hm hn hbase hK

end Fl
end Go.Proofs.YtfnhjflocfmcoaaGreat

namespace Go.Proofs.YtfnhjflocfmcoaaGreat
open Go.RowKit
set_option linter.unusedVariables false
namespace Fl
open Tx Df Sq Hk Tr Pr

/-- Changes in a row of one's own, their lines in blocks that S names. -/
def OwnS (W : World) (S : Nat → Prop) (base : Nat) (v : Value) (l : List Ch) : Prop := ∃ xs, W.ownsRow base 55 6 v l.length xs ∧ PCells W S l xs
/-- The same, their lines below block N. -/
abbrev OwnN (W : World) (N base : Nat) (v : Value) (l : List Ch) : Prop := OwnS W (· < N) base v l
section
variable {W W' : World} {N base : Nat} {v : Value} {l u : List Ch}
theorem OwnS.below {S : Nat → Prop} (h : OwnS W S base v l) (hb : Below W.heap.size W W') : OwnS W' S base v l := by
  obtain ⟨xs, h1, h2⟩ := h
  exact ⟨xs, own_gr h1 (below_gr_row hb), h2.to (fun b _ hl => hb.block b hl)⟩
theorem OwnS.mono {S T : Nat → Prop} (h : OwnS W S base v l) (hs : ∀ b, S b → T b) : OwnS W T base v l := by
  obtain ⟨xs, h1, h2⟩ := h
  exact ⟨xs, h1, h2.mono hs⟩
theorem OwnS.set {S : Nat → Prop} (h : OwnS W S base v l) {b : Nat} (hb : some b ≠ v.ownBlock) (hN : ¬ S b) (j : Nat) (x : Value) : OwnS (W.setCell ⟨b, j, none⟩ x) S base v l := by
  obtain ⟨xs, h1, h2⟩ := h
  refine ⟨xs, h1.kept (grownBy_set W b j x) ?_, h2.to ((alike_set W b j x).mono fun k hk e => hN (e ▸ hk))⟩
  rcases h1.2 with ⟨rfl, _⟩ | ⟨g, cap, cur, rfl, _⟩
  · exact .inl rfl
  · exact .inr fun e => hb e.symm
theorem OwnS.set6 {S : Nat → Prop} (h : OwnS W S base v l) {b : Nat} (hb : some b ≠ v.ownBlock) (hN : ¬ S b) (v0 v1 v2 v3 v4 v5 : Value) :
    OwnS ((((((W.setCell ⟨b, 0, none⟩ v0).setCell ⟨b, 1, none⟩ v1).setCell ⟨b, 2, none⟩ v2).setCell ⟨b, 3, none⟩ v3).setCell ⟨b, 4, none⟩ v4).setCell ⟨b, 5, none⟩ v5) S base v l :=
  (((((h.set hb hN 0 v0).set hb hN 1 v1).set hb hN 2 v2).set hb hN 3 v3).set hb hN 4 v4).set hb hN 5 v5
theorem alike_set6 (W : World) (b : Nat) (v0 v1 v2 v3 v4 v5 : Value) : Alike (· ≠ b) W ((((((W.setCell ⟨b, 0, none⟩ v0).setCell ⟨b, 1, none⟩ v1).setCell ⟨b, 2, none⟩ v2).setCell ⟨b, 3, none⟩ v3).setCell ⟨b, 4, none⟩ v4).setCell ⟨b, 5, none⟩ v5) := fun k h hl => by
  have al : ∀ (X : World) (j : Nat) (v : Value), k < X.heap.size → (X.setCell ⟨b, j, none⟩ v).heap[k]? = X.heap[k]? := fun X j v hx => alike_set X b j v k h hx
  rw [al _ _ _ (by simp; exact hl), al _ _ _ (by simp; exact hl), al _ _ _ (by simp; exact hl), al _ _ _ (by simp; exact hl), al _ _ _ (by simp; exact hl), al _ _ _ hl]
theorem below_set6 {B : Nat} {w X : World} {b : Nat} (h : Below B w X) (hb : B ≤ b) (v0 v1 v2 v3 v4 v5 : Value) : Below B w ((((((X.setCell ⟨b, 0, none⟩ v0).setCell ⟨b, 1, none⟩ v1).setCell ⟨b, 2, none⟩ v2).setCell ⟨b, 3, none⟩ v3).setCell ⟨b, 4, none⟩ v4).setCell ⟨b, 5, none⟩ v5) :=
  (((((h.setCell (p := ⟨b, 0, none⟩) hb v0).setCell (p := ⟨b, 1, none⟩) hb v1).setCell (p := ⟨b, 2, none⟩) hb v2).setCell (p := ⟨b, 3, none⟩) hb v3).setCell (p := ⟨b, 4, none⟩) hb v4).setCell (p := ⟨b, 5, none⟩) hb v5
theorem OwnS.own (h : OwnN W N base v l) (hN : N ≤ base) (hb : base ≤ W.heap.size) : OwnP W base v l := by
  obtain ⟨xs, h1, h2⟩ := h
  exact ⟨xs, h1, h2.mono (out_lt (Nat.le_trans hN hb) fun g e => Nat.le_trans hN (own_ge h1 g e))⟩

/-- One of a row's changes. -/
theorem OwnS.elem {S : Nat → Prop} {g n cap k : Nat} {x : Ch} (h : OwnS W S base (.slice (some ⟨g, 0, none⟩) n cap) l) (hn : l.length = n) (hx : l[k]? = some x) :
    ∃ B i j D m d, W.cell? ⟨g, k * 6, none⟩ = some (.int .i64 x.k) ∧ W.cell? ⟨g, k * 6 + 1, none⟩ = some (strV x.nm) ∧ W.cell? ⟨g, k * 6 + 2, none⟩ = some (strV x.to) ∧ W.cell? ⟨g, k * 6 + 3, none⟩ = some (.int .i64 x.h.pos) ∧ W.cell? ⟨g, k * 6 + 4, none⟩ = some (.slice B i j) ∧ W.cell? ⟨g, k * 6 + 5, none⟩ = some (.slice D m d) ∧
      (∀ j, W.frozen? ⟨g, j, none⟩ = false) ∧ PG W S B i j D m d x := by
  subst hn
  obtain ⟨xs, hr, hF⟩ := h
  obtain ⟨B, i, j, D, m, d, h0, h1, h2, h3, h4, h5, h6⟩ := hF k x hx
  have hk : k < l.length := (List.getElem?_eq_some_iff.1 hx).1
  exact ⟨B, i, j, D, m, d, by rw [hr.cellAt (k * 6) (by omega)]; exact h0, by rw [hr.cellAt (k * 6 + 1) (by omega)]; exact h1, by rw [hr.cellAt (k * 6 + 2) (by omega)]; exact h2, by rw [hr.cellAt (k * 6 + 3) (by omega)]; exact h3, by rw [hr.cellAt (k * 6 + 4) (by omega)]; exact h4, by rw [hr.cellAt (k * 6 + 5) (by omega)]; exact h5, fun j => hr.frozenAt _, h6⟩

theorem PCells.set {S : Nat → Prop} {xs : List Value} {k : Nat} {B D : Option Addr} {i j m d : Nat} {y : Ch} (h : PCells W S l xs) (hl : xs.length = l.length * 6) (hy : PG W S B i j D m d y) :
    PCells W S (l.set k y) ((((((xs.set (k * 6) (.int .i64 y.k)).set (k * 6 + 1) (strV y.nm)).set (k * 6 + 2) (strV y.to)).set (k * 6 + 3) (.int .i64 y.h.pos)).set (k * 6 + 4) (.slice B i j)).set (k * 6 + 5) (.slice D m d)) := fun p x hx => by
  by_cases hp : p = k
  · subst hp
    have hk : p < l.length := by
      have := (List.getElem?_eq_some_iff.1 hx).1
      simpa using this
    rw [List.getElem?_set_self hk] at hx
    injection hx with hx
    subst hx
    refine ⟨B, i, j, D, m, d, ?_, ?_, ?_, ?_, ?_, ?_, hy⟩
    · rw [List.getElem?_set_ne (by omega), List.getElem?_set_ne (by omega), List.getElem?_set_ne (by omega), List.getElem?_set_ne (by omega), List.getElem?_set_ne (by omega), List.getElem?_set_self (by omega)]
    · rw [List.getElem?_set_ne (by omega), List.getElem?_set_ne (by omega), List.getElem?_set_ne (by omega), List.getElem?_set_ne (by omega), List.getElem?_set_self (by simp; omega)]
    · rw [List.getElem?_set_ne (by omega), List.getElem?_set_ne (by omega), List.getElem?_set_ne (by omega), List.getElem?_set_self (by simp; omega)]
    · rw [List.getElem?_set_ne (by omega), List.getElem?_set_ne (by omega), List.getElem?_set_self (by simp; omega)]
    · rw [List.getElem?_set_ne (by omega), List.getElem?_set_self (by simp; omega)]
    · rw [List.getElem?_set_self (by simp; omega)]
  · rw [List.getElem?_set_ne (fun e => hp e.symm)] at hx
    obtain ⟨B', i', j', D', m', d', h0, h1, h2, h3, h4, h5, h6⟩ := h p x hx
    have ne : ∀ a b, a < 6 → b < 6 → k * 6 + a ≠ p * 6 + b := fun a b ha hb => by omega
    have n0 : ∀ b, b < 6 → k * 6 ≠ p * 6 + b := fun b hb => by omega
    have key : ∀ b, b < 6 → ((((((xs.set (k * 6) (.int .i64 y.k)).set (k * 6 + 1) (strV y.nm)).set (k * 6 + 2) (strV y.to)).set (k * 6 + 3) (.int .i64 y.h.pos)).set (k * 6 + 4) (.slice B i j)).set (k * 6 + 5) (.slice D m d))[p * 6 + b]? = xs[p * 6 + b]? := fun b hb => by
      rw [List.getElem?_set_ne (ne 5 b (by decide) hb), List.getElem?_set_ne (ne 4 b (by decide) hb), List.getElem?_set_ne (ne 3 b (by decide) hb), List.getElem?_set_ne (ne 2 b (by decide) hb), List.getElem?_set_ne (ne 1 b (by decide) hb), List.getElem?_set_ne (n0 b hb)]
    exact ⟨B', i', j', D', m', d', (key 0 (by decide)).trans h0, (key 1 (by decide)).trans h1, (key 2 (by decide)).trans h2, (key 3 (by decide)).trans h3, (key 4 (by decide)).trans h4, (key 5 (by decide)).trans h5, h6⟩

/-- One of a row's changes stored anew. -/
theorem OwnS.store {S : Nat → Prop} {g n cap k : Nat} {B D : Option Addr} {i j m d : Nat} {y : Ch} (h : OwnS W S base (.slice (some ⟨g, 0, none⟩) n cap) l) (hn : l.length = n) (hN : ¬ S g) (hy : PG W S B i j D m d y) :
    OwnS ((((((W.setCell ⟨g, k * 6, none⟩ (.int .i64 y.k)).setCell ⟨g, k * 6 + 1, none⟩ (strV y.nm)).setCell ⟨g, k * 6 + 2, none⟩ (strV y.to)).setCell ⟨g, k * 6 + 3, none⟩ (.int .i64 y.h.pos)).setCell ⟨g, k * 6 + 4, none⟩ (.slice B i j)).setCell ⟨g, k * 6 + 5, none⟩ (.slice D m d)) S base (.slice (some ⟨g, 0, none⟩) n cap) (l.set k y) := by
  subst hn
  obtain ⟨xs, hr, hF⟩ := h
  obtain ⟨h0, _⟩ := hr.stored (k * 6) (.int .i64 y.k)
  obtain ⟨h1, _⟩ := h0.stored (k * 6 + 1) (strV y.nm)
  obtain ⟨h2, _⟩ := h1.stored (k * 6 + 2) (strV y.to)
  obtain ⟨h3, _⟩ := h2.stored (k * 6 + 3) (.int .i64 y.h.pos)
  obtain ⟨h4, _⟩ := h3.stored (k * 6 + 4) (.slice B i j)
  obtain ⟨h5, _⟩ := h4.stored (k * 6 + 5) (.slice D m d)
  refine ⟨_, by rw [List.length_set]; exact h5, ?_⟩
  have al : ∀ (X : World) (p : Nat) (v : Value), Alike S X (X.setCell ⟨g, p, none⟩ v) := fun X p v => (alike_set X g p v).mono fun b hb e => hN (e ▸ hb)
  exact ((((((hF.set hr.1 hy).to (al _ _ _)).to (al _ _ _)).to (al _ _ _)).to (al _ _ _)).to (al _ _ _)).to (al _ _ _)
end

/-- Six cells of a row are set. -/
theorem below_row6 {B g : Nat} {w X : World} (h : Below B w X) (hb : B ≤ g) (k : Nat) (v0 v1 v2 v3 v4 v5 : Value) : Below B w ((((((X.setCell ⟨g, k * 6, none⟩ v0).setCell ⟨g, k * 6 + 1, none⟩ v1).setCell ⟨g, k * 6 + 2, none⟩ v2).setCell ⟨g, k * 6 + 3, none⟩ v3).setCell ⟨g, k * 6 + 4, none⟩ v4).setCell ⟨g, k * 6 + 5, none⟩ v5) :=
  (((((h.setCell (p := ⟨g, k * 6, none⟩) hb v0).setCell (p := ⟨g, k * 6 + 1, none⟩) hb v1).setCell (p := ⟨g, k * 6 + 2, none⟩) hb v2).setCell (p := ⟨g, k * 6 + 3, none⟩) hb v3).setCell (p := ⟨g, k * 6 + 4, none⟩) hb v4).setCell (p := ⟨g, k * 6 + 5, none⟩) hb v5
theorem blk_row6 {X : World} {b g : Nat} {t : TypeId} {cs : Array Value} (h : Blk X b t cs) (hne : b ≠ g) (k : Nat) (v0 v1 v2 v3 v4 v5 : Value) : Blk ((((((X.setCell ⟨g, k * 6, none⟩ v0).setCell ⟨g, k * 6 + 1, none⟩ v1).setCell ⟨g, k * 6 + 2, none⟩ v2).setCell ⟨g, k * 6 + 3, none⟩ v3).setCell ⟨g, k * 6 + 4, none⟩ v4).setCell ⟨g, k * 6 + 5, none⟩ v5) b t cs :=
  (((((h.set_ne hne (k * 6) v0).set_ne hne (k * 6 + 1) v1).set_ne hne (k * 6 + 2) v2).set_ne hne (k * 6 + 3) v3).set_ne hne (k * 6 + 4) v4).set_ne hne (k * 6 + 5) v5
theorem blk_set6 {X : World} {b g : Nat} {t : TypeId} {cs : Array Value} (h : Blk X b t cs) (hne : b ≠ g) (v0 v1 v2 v3 v4 v5 : Value) : Blk ((((((X.setCell ⟨g, 0, none⟩ v0).setCell ⟨g, 1, none⟩ v1).setCell ⟨g, 2, none⟩ v2).setCell ⟨g, 3, none⟩ v3).setCell ⟨g, 4, none⟩ v4).setCell ⟨g, 5, none⟩ v5) b t cs :=
  (((((h.set_ne hne 0 v0).set_ne hne 1 v1).set_ne hne 2 v2).set_ne hne 3 v3).set_ne hne 4 v4).set_ne hne 5 v5
theorem alike_row6 (X : World) (g k : Nat) (v0 v1 v2 v3 v4 v5 : Value) : Alike (· ≠ g) X ((((((X.setCell ⟨g, k * 6, none⟩ v0).setCell ⟨g, k * 6 + 1, none⟩ v1).setCell ⟨g, k * 6 + 2, none⟩ v2).setCell ⟨g, k * 6 + 3, none⟩ v3).setCell ⟨g, k * 6 + 4, none⟩ v4).setCell ⟨g, k * 6 + 5, none⟩ v5) := fun i h hl => by
  have al : ∀ (X : World) (j : Nat) (v : Value), i < X.heap.size → (X.setCell ⟨g, j, none⟩ v).heap[i]? = X.heap[i]? := fun X j v hx => alike_set X g j v i h hx
  rw [al _ _ _ (by simp; exact hl), al _ _ _ (by simp; exact hl), al _ _ _ (by simp; exact hl), al _ _ _ (by simp; exact hl), al _ _ _ (by simp; exact hl), al _ _ _ hl]
theorem Alike.trans_ {S : Nat → Prop} {W W1 W2 : World} (h : Alike S W W1) (h' : Alike S W1 W2) (hs : W.heap.size ≤ W1.heap.size) : Alike S W W2 := fun b hb hl => (h' b hb (Nat.lt_of_lt_of_le hl hs)).trans (h b hb hl)

end Fl
end Go.Proofs.YtfnhjflocfmcoaaGreat

namespace Go.Proofs.YtfnhjflocfmcoaaGreat
open Go.ChangeShapes Go.WideShapes Go.ChangeAt Go.RowKit Go.Deep
set_option linter.unusedVariables false
namespace Fl
open Tx Df Sq Hk Tr Pr

/-- Changes that are handed in. -/
structure PrsArg (w : World) (A : Option Addr) (n c : Nat) (l : List Ch) : Prop where
  len : l.length = n
  cap : n ≤ c
  le : n ≤ maxLen
  rd : RdP w (· < w.heap.size) A l

section
variable {H : Type} {enc : TypeId × Value → H} {W : World} {base : Nat} {spare : Nat → Bool} {held : Bool}

theorem pr_in {fuel : Nat} {a : Addr} {i : Nat} {cs : List Value} {x : DataW H × List MemPlace} (hc : W.cells? base (a.add (i * 6)) 6 = some cs) (h : DataW.trod enc Tryz.prog W base spare held fuel 55 cs = some x) : ∃ p : Ch, PrAt W (· < W.heap.size) a i p := by
  have s3 : Tryz.prog.cellsOf 53 = 3 := by kernel_rfl
  have s1 : Tryz.prog.cellsOf 9 = 1 := by kernel_rfl
  have s0 : Tryz.prog.cellsOf 3 = 1 := by kernel_rfl
  have s2 : Tryz.prog.cellsOf 49 = 1 := by kernel_rfl
  obtain ⟨_, hl, hcell⟩ := World.cells?_some hc
  obtain ⟨xs, n, _, _, _, hlen, hf⟩ := DataW.trod_struct Tryz.underlying55 h
  match cs, hl with
  | [v0, v1, v2, v3, v4, v5], _ =>
    match xs, hlen with
    | [y0, y1, y2, y3], _ =>
      have h0 : DataW.trod enc Tryz.prog W base spare held n 3 (([v0, v1, v2, v3, v4, v5].drop 0).take (Tryz.prog.cellsOf 3)) = some y0 := by simpa using hf 0 _ rfl
      have h1 : DataW.trod enc Tryz.prog W base spare held n 9 (([v0, v1, v2, v3, v4, v5].drop 1).take (Tryz.prog.cellsOf 9)) = some y1 := by simpa using hf 1 _ rfl
      have h2 : DataW.trod enc Tryz.prog W base spare held n 9 (([v0, v1, v2, v3, v4, v5].drop 2).take (Tryz.prog.cellsOf 9)) = some y2 := by simpa using hf 2 _ rfl
      have h3 : DataW.trod enc Tryz.prog W base spare held n 53 (([v0, v1, v2, v3, v4, v5].drop 3).take (Tryz.prog.cellsOf 53)) = some y3 := by simpa using hf 3 _ rfl
      simp only [s0, s1, s3, List.drop_zero, List.take_succ_cons, List.take_zero, List.drop_succ_cons] at h0 h1 h2 h3
      obtain ⟨zs, m, _, _, _, hlen3, hf3⟩ := DataW.trod_struct Tryz.underlying53 h3
      match zs, hlen3 with
      | [z0, z1, z2], _ =>
        have g0 : DataW.trod enc Tryz.prog W base spare held m 3 (([v3, v4, v5].drop 0).take (Tryz.prog.cellsOf 3)) = some z0 := by simpa using hf3 0 _ rfl
        have g1 : DataW.trod enc Tryz.prog W base spare held m 49 (([v3, v4, v5].drop 1).take (Tryz.prog.cellsOf 49)) = some z1 := by simpa using hf3 1 _ rfl
        have g2 : DataW.trod enc Tryz.prog W base spare held m 49 (([v3, v4, v5].drop 2).take (Tryz.prog.cellsOf 49)) = some z2 := by simpa using hf3 2 _ rfl
        simp only [s0, s2, List.drop_zero, List.take_succ_cons, List.take_zero, List.drop_succ_cons] at g0 g1 g2
        obtain ⟨k, e0, _, w0⟩ := DataW.trod_int Tryz.underlying3 h0
        injection e0 with e0
        subst e0
        obtain ⟨sn, e1, _, w1⟩ := DataW.trod_string Tryz.underlying9 h1
        injection e1 with e1
        subst e1
        obtain ⟨so, e2, _, w2⟩ := DataW.trod_string Tryz.underlying9 h2
        injection e2 with e2
        subst e2
        obtain ⟨q, e3, _, w3⟩ := DataW.trod_int Tryz.underlying3 g0
        injection e3 with e3
        subst e3
        obtain ⟨A, n1, c1, l, rfl, s⟩ := strs_any g1
        obtain ⟨A', n2, c2, l', rfl, s'⟩ := strs_any g2
        have k0 := hcell 0 (by decide); have k1 := hcell 1 (by decide); have k2 := hcell 2 (by decide); have k3 := hcell 3 (by decide); have k4 := hcell 4 (by decide); have k5 := hcell 5 (by decide)
        rw [add_zero'] at k0
        refine ⟨⟨k, sn.data.toList, so.data.toList, ⟨q, l, l'⟩⟩, ?_, ?_, ?_, ?_, A, n1, c1, A', n2, c2, ?_, ?_, ⟨s.len, s'.len, s.cap, s'.cap, s.le, s'.le, s.rd, s'.rd, i64_wf w3, i64_wf w0, ?_, ?_, s.short, s'.short⟩⟩
        · exact k0
        · exact k1
        · exact k2
        · exact k3
        · exact k4
        · exact k5
        · show sn.data.toList.length ≤ _; rw [Array.length_toList]; exact w1
        · show so.data.toList.length ≤ _; rw [Array.length_toList]; exact w2

theorem prs_in {fuel : Nat} {cs : List Value} {x : DataW H × List MemPlace} {A : Option Addr} {l c : Nat} (h : DataW.trod enc Tryz.prog W base spare held fuel 39 cs = some x) (hcs : cs = [.slice A l c]) :
    ∃ t : List Ch, PrsArg W A l c t := by
  have s37 : Tryz.prog.cellsOf 55 = 6 := by kernel_rfl
  rcases open_slice Tryz.underlying39 h with ⟨hcs', _⟩ | ⟨a, len, cap, m, n, D, Pl, hcs', _, hl, hm, hmm, _, hi⟩
  · rw [hcs] at hcs'
    simp at hcs'
    obtain ⟨rfl, rfl, rfl⟩ := hcs'
    exact ⟨[], rfl, Nat.le_refl _, Nat.zero_le _, .inl rfl⟩
  · rw [hcs] at hcs'
    simp at hcs'
    obtain ⟨rfl, rfl, rfl⟩ := hcs'
    have hlm : l ≤ m := by rw [hmm]; split <;> omega
    rw [s37] at hi
    obtain ⟨t, h1, h2⟩ := list_of (P := fun i x => PrAt W (· < W.heap.size) a i x) l (fun i hil => by
      obtain ⟨cs', hc, ht⟩ := hi i (by omega)
      exact pr_in hc ht)
    refine ⟨t, h1, hl, by omega, ?_⟩
    cases t with
    | nil => exact .inl rfl
    | cons e es =>
      have hb := lt_of_cell (h2 0 e rfl).c0
      rw [add_block] at hb
      exact .inr ⟨a, rfl, hb, fun k x hx => h2 k x hx⟩
end

end Fl
end Go.Proofs.YtfnhjflocfmcoaaGreat

namespace Go.Proofs.YtfnhjflocfmcoaaGreat
namespace Td
open Tx Sq Hk Tr Pr Fl
set_option linter.unusedVariables false

section
variable {α : Type} (idle : α → Bool) (inv : α → α)

/-- None is idle, and none undoes the one behind it (of a stack). -/
def Tst : List α → Prop
  | [] => True
  | [p] => idle p = false
  | p :: o :: s => idle p = false ∧ p ≠ inv o ∧ Tst (o :: s)
theorem Tst.tail {p : α} {s : List α} (h : Tst idle inv (p :: s)) : Tst idle inv s := by
  cases s with
  | nil => trivial
  | cons o s => exact h.2.2
variable [DecidableEq α]

/-- One more on a stack, its last one ahead: nothing, if it is idle; it takes away the last one, if it undoes that. -/
def step (s : List α) (p : α) : List α :=
  if idle p then s else match s with
    | [] => [p]
    | o :: s' => if p = inv o then s' else p :: o :: s'
def run (s l : List α) : List α := l.foldl (step idle inv) s
theorem run_app (s a b : List α) : run idle inv s (a ++ b) = run idle inv (run idle inv s a) b := List.foldl_append
end

instance : DecidableEq Ch := fun p q => decidable_of_iff (sameP p q = true) sameP_iff
end Td
end Go.Proofs.YtfnhjflocfmcoaaGreat

set_option maxRecDepth 100000
namespace Go.Proofs.YtfnhjflocfmcoaaGreat
namespace Pn
open Tx Df Sq Hk Tr Pr Fl
set_option linter.unusedVariables false

/-- An id: who, and its number. -/
abbrev Id_ : Type := Int × Int
/-- A named patch. -/
structure Nm where
  id : Id_
  deps : List Id_
  txt : List UInt8
  l : List Ch
theorem nm_ext {p q : Nm} (h1 : p.id = q.id) (h2 : p.deps = q.deps) (h3 : p.txt = q.txt) (h4 : p.l = q.l) : p = q := by
  cases p; cases q; simp only at h1 h2 h3 h4; subst h1 h2 h3 h4; rfl
instance : DecidableEq Ch := fun p q => decidable_of_iff (sameP p q = true) sameP_iff
def sameN (p q : Nm) : Bool := decide (p.l = q.l) && (decide (p.id = q.id) && (decide (p.txt = q.txt) && decide (p.deps = q.deps)))
theorem sameN_iff {p q : Nm} : sameN p q = true ↔ p = q := by
  unfold sameN
  simp only [Bool.and_eq_true, decide_eq_true_eq]
  exact ⟨fun ⟨h1, h2, h3, h4⟩ => nm_ext h2 h4 h3 h1, fun h => by rw [h]; exact ⟨rfl, rfl, rfl, rfl⟩⟩
def allN (l : List Nm) : List Ch := l.flatMap (·.l)
theorem allN_cons (p : Nm) (l : List Nm) : allN (p :: l) = p.l ++ allN l := List.flatMap_cons
theorem allN_app (a b : List Nm) : allN (a ++ b) = allN a ++ allN b := List.flatMap_append
def findN (l : List Nm) (id : Id_) : Int := match l.findIdx? (fun p => decide (p.id = id)) with
  | some k => k
  | none => -1
/-- What a tree becomes by patches. -/
def doN (t : TR) (l : List Nm) : Int × TR := doF t (allN l)
/-- A patch passes another one: they are told with the changes that their changes tell. -/
def passN (p q : Nm) : Option (Nm × Nm) := if p.id ∈ q.deps then none else (passF p.l q.l).map fun z => (⟨q.id, q.deps, q.txt, z.1⟩, ⟨p.id, p.deps, p.txt, z.2⟩)
theorem passN_inv {p q x y : Nm} (h : passN p q = some (x, y)) : p.id ∉ q.deps ∧ passF p.l q.l = some (x.l, y.l) ∧ (x.id = q.id ∧ x.deps = q.deps ∧ x.txt = q.txt) ∧ (y.id = p.id ∧ y.deps = p.deps ∧ y.txt = p.txt) := by
  unfold passN at h
  by_cases hd : p.id ∈ q.deps
  · rw [if_pos hd] at h; cases h
  · rw [if_neg hd] at h
    cases hp : passF p.l q.l with
    | none => rw [hp] at h; cases h
    | some z =>
      rw [hp] at h
      injection h with h
      injection h with h1 h2
      subst h1 h2
      exact ⟨hd, rfl, ⟨rfl, rfl, rfl⟩, rfl, rfl, rfl⟩
/-- One passes all of a list. -/
abbrev overN : List Nm → Nm → Option (Nm × List Nm) := one passN
/-- Passing changes no Id, Deps or Text, and no number of changes. -/
theorem passN_keeps {p q x y : Nm} (h : passN p q = some (x, y)) : (x.id = q.id ∧ x.deps = q.deps ∧ x.txt = q.txt ∧ x.l.length = q.l.length) ∧ (y.id = p.id ∧ y.deps = p.deps ∧ y.txt = p.txt ∧ y.l.length = p.l.length) := by
  obtain ⟨_, h2, ⟨a1, a2, a3⟩, b1, b2, b3⟩ := passN_inv h
  obtain ⟨n1, n2⟩ := passL_len passP h2
  exact ⟨⟨a1, a2, a3, n1⟩, b1, b2, b3, n2⟩
end Pn
end Go.Proofs.YtfnhjflocfmcoaaGreat

namespace Go.Proofs.YtfnhjflocfmcoaaGreat
open Go.RowKit
set_option linter.unusedVariables false
namespace Pn
open Tx Df Sq Hk Tr Pr Fl

/-- The cells of ids. -/
def idsV (l : List Id_) : List Value := l.flatMap fun x => [.int .i64 x.1, .int .i64 x.2]
theorem idsV_cons (x : Id_) (l : List Id_) : idsV (x :: l) = .int .i64 x.1 :: .int .i64 x.2 :: idsV l := List.flatMap_cons
theorem idsV_app (l u : List Id_) : idsV (l ++ u) = idsV l ++ idsV u := List.flatMap_append
theorem idsV_len : ∀ (l : List Id_), (idsV l).length = l.length * 2
  | [] => rfl
  | x :: l => by rw [idsV_cons, List.length_cons, List.length_cons, idsV_len l, List.length_cons]; omega
theorem idsV_at : ∀ {l : List Id_} {k : Nat} {x : Id_}, l[k]? = some x → (idsV l)[k * 2]? = some (.int .i64 x.1) ∧ (idsV l)[k * 2 + 1]? = some (.int .i64 x.2)
  | [], k, x, h => by simp at h
  | y :: l, 0, x, h => by
    injection h with h
    subst h
    rw [idsV_cons]
    exact ⟨rfl, rfl⟩
  | y :: l, k + 1, x, h => by
    rw [idsV_cons, show (k + 1) * 2 = k * 2 + 1 + 1 by omega]
    exact idsV_at (l := l) (by simpa using h)
theorem idsV_one : ∀ (l : List Id_), ∀ u ∈ idsV l, u.oneCell' = true
  | [], u, h => by cases h
  | x :: l, u, h => by
    rw [idsV_cons] at h
    rcases List.mem_cons.1 h with rfl | h
    · rfl
    · rcases List.mem_cons.1 h with rfl | h
      · rfl
      · exact idsV_one l u h
theorem idsV_drop : ∀ (l : List Id_) (n : Nat), (idsV l).drop (n * 2) = idsV (l.drop n)
  | [], n => by simp [idsV]
  | x :: l, 0 => rfl
  | x :: l, n + 1 => by
    rw [idsV_cons, show (n + 1) * 2 = n * 2 + 1 + 1 by omega, List.drop_succ_cons, List.drop_succ_cons, List.drop_succ_cons]
    exact idsV_drop l n
/-- The address A leads, below block B, to ids; or there are none. -/
abbrev RdI (w : World) (B : Nat) (A : Option Addr) (l : List Id_) : Prop := Rd w B A (idsV l)
theorem RdI.elem {W : World} {B : Nat} {A : Option Addr} {l : List Id_} (h : RdI W B A l) {k : Nat} (hk : k < l.length) :
    ∃ a x, A = some a ∧ a.block < B ∧ l[k]? = some x ∧ W.cell? (a.add (k * 2)) = some (.int .i64 x.1) ∧ W.cell? ⟨(a.add (k * 2)).block, (a.add (k * 2)).off + 1, none⟩ = some (.int .i64 x.2) := by
  obtain ⟨h1, h2⟩ := idsV_at (l := l) (List.getElem?_eq_getElem hk)
  rcases h with h | ⟨a, e, hlt, hc⟩
  · rw [h] at h1; simp at h1
  · exact ⟨a, l[k], e, hlt, List.getElem?_eq_getElem hk, hc _ _ h1, by rw [add_off _ _ _ (by decide)]; exact hc _ _ h2⟩
theorem RdI.drop {W : World} {B : Nat} {A : Option Addr} {l : List Id_} (h : RdI W B A l) (k : Nat) : RdI W B (A.map (·.add (k * 2))) (l.drop k) := by
  show Rd W B _ (idsV (l.drop k))
  rw [← idsV_drop]
  rcases h with h | ⟨a, rfl, hlt, hc⟩
  · exact .inl (by rw [h]; simp)
  · refine .inr ⟨a.add (k * 2), rfl, by rw [add_block]; exact hlt, fun j u hu => ?_⟩
    rw [add_add]
    exact hc _ u (by rw [← hu, List.getElem?_drop])
theorem RdI.mv {W W' : World} {A : Option Addr} {l : List Id_} (h : RdI W W.heap.size A l) (hb : Below W.heap.size W W') : RdI W' W'.heap.size A l := Rd.up (Rd.below h hb) hb.size

/-- The value of a named patch. -/
abbrev nmV (x : Id_) (D : Option Addr) (dn dc : Nat) (t : List UInt8) (A : Option Addr) (n c : Nat) : Value := .agg #[.int .i64 x.1, .int .i64 x.2, .slice D dn dc, strV t, .slice A n c]

/-- Two slice values that read, below block B, as a patch's Deps and changes. -/
structure NV (w : World) (B : Nat) (D : Option Addr) (dn dc : Nat) (A : Option Addr) (n c : Nat) (p : Nm) : Prop where
  dl : p.deps.length = dn
  dk : dn ≤ dc
  dm : dn ≤ maxLen
  dr : RdI w B D p.deps
  tm : p.txt.length ≤ maxLen
  l : p.l.length = n
  k : n ≤ c
  m : n ≤ maxLen
  r : RdP w (· < B) A p.l
section
variable {W W' : World} {B B' : Nat} {D A : Option Addr} {dn dc n c : Nat} {p : Nm}
theorem NV.below (h : NV W B D dn dc A n c p) (hb : Below B W W') : NV W' B D dn dc A n c p := ⟨h.dl, h.dk, h.dm, Rd.below h.dr hb, h.tm, h.l, h.k, h.m, h.r.below hb⟩
theorem NV.up (h : NV W B D dn dc A n c p) (hB : B ≤ B') : NV W B' D dn dc A n c p := ⟨h.dl, h.dk, h.dm, Rd.up h.dr hB, h.tm, h.l, h.k, h.m, h.r.mono fun b hb => Nat.lt_of_lt_of_le hb hB⟩
theorem NV.mv (h : NV W W.heap.size D dn dc A n c p) (hb : Below W.heap.size W W') : NV W' W'.heap.size D dn dc A n c p := (h.below hb).up hb.size
theorem NV.drewN (h : NV W B D dn dc A n c p) (d : Nat) : NV (W.drewN d) B D dn dc A n c p := h.below (below_drewN (Below.refl _ _) d)
end

/-- The cells of a patch, the k-th of a row at the address a. -/
structure NAt (w : World) (B : Nat) (a : Addr) (k : Nat) (x : Nm) : Prop where
  c0 : w.cell? (a.add (k * 5)) = some (.int .i64 x.id.1)
  c1 : w.cell? ⟨(a.add (k * 5)).block, (a.add (k * 5)).off + 1, none⟩ = some (.int .i64 x.id.2)
  c3 : w.cell? ⟨(a.add (k * 5)).block, (a.add (k * 5)).off + 3, none⟩ = some (strV x.txt)
  c2 : ∃ D dn dc A n c, w.cell? ⟨(a.add (k * 5)).block, (a.add (k * 5)).off + 2, none⟩ = some (.slice D dn dc) ∧ w.cell? ⟨(a.add (k * 5)).block, (a.add (k * 5)).off + 4, none⟩ = some (.slice A n c) ∧ NV w B D dn dc A n c x

/-- The address A leads, below block B, to patches; or there are none. -/
def RdN (w : World) (B : Nat) (A : Option Addr) (l : List Nm) : Prop :=
  l = [] ∨ ∃ a, A = some a ∧ a.block < B ∧ ∀ (k : Nat) x, l[k]? = some x → NAt w B a k x
section
variable {W W' : World} {B B' : Nat} {A : Option Addr} {l : List Nm}
theorem cellB {p : Addr} {u : Value} (hc : W.cell? p = some u) (hb : Below B W W') (hp : p.block < B) : W'.cell? p = some u := (hb.cell hp).trans hc
theorem NAt.below {a : Addr} {k : Nat} {x : Nm} (h : NAt W B a k x) (ha : a.block < B) (hb : Below B W W') : NAt W' B a k x := by
  obtain ⟨c0, c1, c3, D, dn, dc, A, n, c, c2, c4, c5⟩ := h
  have hk : (a.add (k * 5)).block < B := by rw [add_block]; exact ha
  exact ⟨cellB c0 hb hk, cellB c1 hb hk, cellB c3 hb hk, D, dn, dc, A, n, c, cellB c2 hb hk, cellB c4 hb hk, c5.below hb⟩
theorem NAt.up {a : Addr} {k : Nat} {x : Nm} (h : NAt W B a k x) (hB : B ≤ B') : NAt W B' a k x := by
  obtain ⟨c0, c1, c3, D, dn, dc, A, n, c, c2, c4, c5⟩ := h
  exact ⟨c0, c1, c3, D, dn, dc, A, n, c, c2, c4, c5.up hB⟩
theorem RdN.below (h : RdN W B A l) (hb : Below B W W') : RdN W' B A l := h.imp id fun ⟨a, e, h1, h2⟩ => ⟨a, e, h1, fun k x hx => (h2 k x hx).below h1 hb⟩
theorem RdN.up (h : RdN W B A l) (hB : B ≤ B') : RdN W B' A l := h.imp id fun ⟨a, e, h1, h2⟩ => ⟨a, e, Nat.lt_of_lt_of_le h1 hB, fun k x hx => (h2 k x hx).up hB⟩
theorem RdN.mv (h : RdN W W.heap.size A l) (hb : Below W.heap.size W W') : RdN W' W'.heap.size A l := (h.below hb).up hb.size
theorem RdN.drewN (h : RdN W B A l) (d : Nat) : RdN (W.drewN d) B A l := h.below (below_drewN (Below.refl _ _) d)
theorem RdN.nil (W : World) (B : Nat) (A : Option Addr) : RdN W B A [] := .inl rfl
/-- One of a list of patches. -/
theorem RdN.elem (h : RdN W B A l) {k : Nat} (hk : k < l.length) :
    ∃ a x D dn dc E n c, A = some a ∧ a.block < B ∧ l[k]? = some x ∧
      W.cell? (a.add (k * 5)) = some (.int .i64 x.id.1) ∧ W.cell? ⟨(a.add (k * 5)).block, (a.add (k * 5)).off + 1, none⟩ = some (.int .i64 x.id.2) ∧ W.cell? ⟨(a.add (k * 5)).block, (a.add (k * 5)).off + 2, none⟩ = some (.slice D dn dc) ∧
      W.cell? ⟨(a.add (k * 5)).block, (a.add (k * 5)).off + 3, none⟩ = some (strV x.txt) ∧ W.cell? ⟨(a.add (k * 5)).block, (a.add (k * 5)).off + 4, none⟩ = some (.slice E n c) ∧ NV W B D dn dc E n c x := by
  rcases h with rfl | ⟨a, e, hlt, hc⟩
  · exact absurd hk (by simp)
  · obtain ⟨c0, c1, c3, D, dn, dc, E, n, c, c2, c4, c5⟩ := hc k _ (List.getElem?_eq_getElem hk)
    exact ⟨a, l[k], D, dn, dc, E, n, c, e, hlt, List.getElem?_eq_getElem hk, c0, c1, c2, c3, c4, c5⟩
/-- The first ones of a list, and those behind them. -/
theorem RdN.take (h : RdN W B A l) (k : Nat) : RdN W B A (l.take k) := by
  rcases h with rfl | ⟨a, e, h1, h2⟩
  · exact .inl (by simp)
  · refine .inr ⟨a, e, h1, fun j y hy => h2 j y ?_⟩
    rw [List.getElem?_take] at hy
    split at hy
    · exact hy
    · cases hy
theorem RdN.drop (h : RdN W B A l) (k : Nat) : RdN W B (A.map (·.add (k * 5))) (l.drop k) := by
  rcases h with rfl | ⟨a, rfl, h1, h2⟩
  · exact .inl (by simp)
  · refine .inr ⟨_, rfl, by rw [add_block]; exact h1, fun j y hy => ?_⟩
    rw [List.getElem?_drop] at hy
    have := h2 (k + j) y hy
    have ea : (a.add (k * 5)).add (j * 5) = a.add ((k + j) * 5) := by rw [add_add]; congr 1; omega
    obtain ⟨c0, c1, c3, c2⟩ := this
    exact ⟨by rw [ea]; exact c0, by rw [ea]; exact c1, by rw [ea]; exact c3, by rw [ea]; exact c2⟩
end

/-- The cells of patches, as far as they go; what they hold lies below block B. -/
def NCells (W : World) (B : Nat) (l : List Nm) (xs : List Value) : Prop :=
  ∀ (k : Nat) x, l[k]? = some x → ∃ D dn dc A n c, xs[k * 5]? = some (.int .i64 x.id.1) ∧ xs[k * 5 + 1]? = some (.int .i64 x.id.2) ∧ xs[k * 5 + 2]? = some (.slice D dn dc) ∧ xs[k * 5 + 3]? = some (strV x.txt) ∧ xs[k * 5 + 4]? = some (.slice A n c) ∧ NV W B D dn dc A n c x
section
variable {W W' : World} {B B' : Nat} {l u : List Nm} {xs ys : List Value}
theorem NCells.below (h : NCells W B l xs) (hb : Below B W W') : NCells W' B l xs := fun k x hx => by
  obtain ⟨D, dn, dc, A, n, c, h0, h1, h2, h3, h4, h5⟩ := h k x hx
  exact ⟨D, dn, dc, A, n, c, h0, h1, h2, h3, h4, h5.below hb⟩
theorem NCells.up (h : NCells W B l xs) (hB : B ≤ B') : NCells W B' l xs := fun k x hx => by
  obtain ⟨D, dn, dc, A, n, c, h0, h1, h2, h3, h4, h5⟩ := h k x hx
  exact ⟨D, dn, dc, A, n, c, h0, h1, h2, h3, h4, h5.up hB⟩
theorem NCells.nil (W : World) (B : Nat) (xs : List Value) : NCells W B [] xs := fun k x hx => by simp at hx
theorem NCells.one {D A : Option Addr} {dn dc n c : Nat} {x : Nm} (h : NV W B D dn dc A n c x) : NCells W B [x] [.int .i64 x.id.1, .int .i64 x.id.2, .slice D dn dc, strV x.txt, .slice A n c] := fun k y hy => by
  cases k with
  | zero => cases hy; exact ⟨D, dn, dc, A, n, c, rfl, rfl, rfl, rfl, rfl, h⟩
  | succ k => simp at hy
theorem NCells.append (h : NCells W B l xs) (hl : xs.length = l.length * 5) (h' : NCells W B u ys) : NCells W B (l ++ u) (xs ++ ys) := fun k x hx => by
  by_cases hk : k < l.length
  · rw [List.getElem?_append_left hk] at hx
    obtain ⟨D, dn, dc, A, n, c, h0, h1, h2, h3, h4, h5⟩ := h k x hx
    exact ⟨D, dn, dc, A, n, c, by rw [List.getElem?_append_left (by omega)]; exact h0, by rw [List.getElem?_append_left (by omega)]; exact h1, by rw [List.getElem?_append_left (by omega)]; exact h2, by rw [List.getElem?_append_left (by omega)]; exact h3, by rw [List.getElem?_append_left (by omega)]; exact h4, h5⟩
  · rw [List.getElem?_append_right (by omega)] at hx
    obtain ⟨D, dn, dc, A, n, c, h0, h1, h2, h3, h4, h5⟩ := h' _ x hx
    have e : ∀ j, k * 5 + j - xs.length = (k - l.length) * 5 + j := fun j => by omega
    refine ⟨D, dn, dc, A, n, c, ?_, ?_, ?_, ?_, ?_, h5⟩
    · rw [List.getElem?_append_right (by omega), show k * 5 - xs.length = (k - l.length) * 5 by omega]; exact h0
    · rw [List.getElem?_append_right (by omega), e]; exact h1
    · rw [List.getElem?_append_right (by omega), e]; exact h2
    · rw [List.getElem?_append_right (by omega), e]; exact h3
    · rw [List.getElem?_append_right (by omega), e]; exact h4
theorem one5 : ∀ {u : List Nm} {ys : List Value}, NCells W B u ys → ys.length = u.length * 5 → ∀ y ∈ ys, Value.oneCell' y = true := fun {u ys} h hl y hy => by
  obtain ⟨j, hj, rfl⟩ := List.mem_iff_getElem.1 hy
  have hk : j / 5 < u.length := by omega
  obtain ⟨D, dn, dc, A, n, c, h0, h1, h2, h3, h4, h5⟩ := h (j / 5) _ (List.getElem?_eq_getElem hk)
  obtain ⟨v, hv⟩ : ∃ v, ys[j] = v := ⟨_, rfl⟩
  have hj' : ys[j]? = some v := by rw [← hv]; exact List.getElem?_eq_getElem hj
  rw [hv]
  have hm : j % 5 < 5 := Nat.mod_lt _ (by decide)
  have hd : j / 5 * 5 + j % 5 = j := by omega
  rw [← hd] at hj'
  generalize j % 5 = r at *
  match r, hm with
  | 0, _ => rw [Nat.add_zero] at hj'; rw [h0] at hj'; injection hj' with e; rw [← e]; rfl
  | 1, _ => rw [h1] at hj'; injection hj' with e; rw [← e]; rfl
  | 2, _ => rw [h2] at hj'; injection hj' with e; rw [← e]; rfl
  | 3, _ => rw [h3] at hj'; injection hj' with e; rw [← e]; rfl
  | 4, _ => rw [h4] at hj'; injection hj' with e; rw [← e]; rfl
end

/-- The cells of a list of patches that is read. -/
theorem flatN {w : World} {B : Nat} {A : Option Addr} {l : List Nm} (h : RdN w B A l) :
    ∃ xs : List Value, xs.length = l.length * 5 ∧ NCells w B l xs ∧ (xs = [] ∨ ∃ a, A = some a ∧ ∀ (j : Nat) u, xs[j]? = some u → w.cell? (a.add j) = some u) := by
  rcases h with rfl | ⟨a, rfl, hlt, hc⟩
  · exact ⟨[], rfl, NCells.nil _ _ _, .inl rfl⟩
  · have key : ∀ (u : List Nm) (p : Nat), (∀ (k : Nat) x, u[k]? = some x → NAt w B a (p + k) x) → ∃ xs : List Value, xs.length = u.length * 5 ∧ NCells w B u xs ∧ ∀ (j : Nat) v, xs[j]? = some v → w.cell? (a.add (p * 5 + j)) = some v := by
      intro u
      induction u with
      | nil => intro p _; exact ⟨[], rfl, NCells.nil _ _ _, fun j v hv => by simp at hv⟩
      | cons x u ih =>
        intro p hu
        obtain ⟨xs, h1, h2, h3⟩ := ih (p + 1) fun k y hy => by
          have := hu (k + 1) y (by simpa using hy)
          rw [show p + 1 + k = p + (k + 1) by omega]; exact this
        obtain ⟨c0, c1, c3, D, dn, dc, E, n, c, c2, c4, c5⟩ := hu 0 x rfl
        rw [Nat.add_zero] at c0 c1 c2 c3 c4
        rw [add_off _ _ _ (by decide)] at c1 c2 c3 c4
        refine ⟨[.int .i64 x.id.1, .int .i64 x.id.2, .slice D dn dc, strV x.txt, .slice E n c] ++ xs, by simp [h1]; omega, NCells.append (l := [x]) (NCells.one c5) rfl h2, fun j v hv => ?_⟩
        rcases j with _ | _ | _ | _ | _ | j
        · cases hv; exact c0
        · cases hv; exact c1
        · cases hv; exact c2
        · cases hv; exact c3
        · cases hv; exact c4
        · have := h3 j v (by simpa using hv)
          rw [show p * 5 + (j + 5) = (p + 1) * 5 + j by omega]; exact this
    obtain ⟨xs, h1, h2, h3⟩ := key l 0 fun k x hx => by rw [Nat.zero_add]; exact hc k x hx
    exact ⟨xs, h1, h2, .inr ⟨a, rfl, fun j u hu => by have := h3 j u hu; rw [Nat.zero_mul, Nat.zero_add] at this; exact this⟩⟩

theorem info_named : (Tryz.prog.info? 41).map (fun i => (i.zero, i.size, i.bytes)) = some (some (.agg #[.int .i64 0, .int .i64 0, .slice none 0 0, .string ⟨#[]⟩, .slice none 0 0]), 5, 80) := by kernel_rfl
theorem info_id : (Tryz.prog.info? 31).map (fun i => (i.zero, i.size, i.bytes)) = some (some (.agg #[.int .i64 0, .int .i64 0]), 2, 16) := by kernel_rfl

/-- Patches in a row of one's own; what they hold lies below block N. -/
def OwnM (W : World) (N base : Nat) (v : Value) (l : List Nm) : Prop := ∃ xs, W.ownsRow base 41 5 v l.length xs ∧ NCells W N l xs
section
variable {W W' : World} {N base : Nat} {v : Value} {l u : List Nm}
theorem ownM_nil (W : World) (N base : Nat) : OwnM W N base (.slice none 0 0) [] := ⟨[], World.ownsRow_nil _ _ _ _, NCells.nil _ _ _⟩
theorem ownM_ge (h : OwnM W N base v l) : ∀ k, v.ownBlock = some k → base ≤ k := fun k hk => (h.elim fun xs h => own_ge h.1 k hk)
theorem OwnM.below (h : OwnM W N base v l) (hN : N ≤ W.heap.size) (hb : Below W.heap.size W W') : OwnM W' N base v l := by
  obtain ⟨xs, h1, h2⟩ := h
  exact ⟨xs, own_gr h1 (below_gr_row hb), h2.below (hb.mono hN)⟩
/-- A row of patches of one's own is read as patches. -/
theorem rdN_own (h : OwnM W N base v l) (hN : N ≤ W.heap.size) : ∃ A c, v = .slice A l.length c ∧ l.length ≤ c ∧ RdN W W.heap.size A l := by
  obtain ⟨xs, hr, hF⟩ := h
  have hr0 := hr
  rcases hr.2 with ⟨rfl, h0⟩ | ⟨g, cap, cur, rfl, hbg, hg, hc, _⟩
  · have : l = [] := List.eq_nil_of_length_eq_zero h0
    subst this
    exact ⟨none, 0, rfl, Nat.le_refl _, .inl rfl⟩
  · refine ⟨_, cap, rfl, hc, .inr ⟨_, rfl, (Array.getElem?_eq_some_iff.1 hg).1, fun k x hx => ?_⟩⟩
    obtain ⟨D, dn, dc, A, n, c, h0, h1, h2, h3, h4, h5⟩ := hF k x hx
    have hk : k < l.length := (List.getElem?_eq_some_iff.1 hx).1
    have ea : (⟨g, 0, none⟩ : Addr).add (k * 5) = ⟨g, k * 5, none⟩ := by unfold Addr.add; split <;> simp_all
    refine ⟨?_, ?_, ?_, D, dn, dc, A, n, c, ?_, ?_, h5.up hN⟩
    · rw [ea, hr0.cellAt (k * 5) (by omega)]; exact h0
    · rw [ea]; show W.cell? ⟨g, k * 5 + 1, none⟩ = _; rw [hr0.cellAt (k * 5 + 1) (by omega)]; exact h1
    · rw [ea]; show W.cell? ⟨g, k * 5 + 3, none⟩ = _; rw [hr0.cellAt (k * 5 + 3) (by omega)]; exact h3
    · rw [ea]; show W.cell? ⟨g, k * 5 + 2, none⟩ = _; rw [hr0.cellAt (k * 5 + 2) (by omega)]; exact h2
    · rw [ea]; show W.cell? ⟨g, k * 5 + 4, none⟩ = _; rw [hr0.cellAt (k * 5 + 4) (by omega)]; exact h4
end

/-- Ids in a row of one's own. -/
abbrev OwnI (W : World) (base : Nat) (v : Value) (l : List Id_) : Prop := W.ownsRow base 31 2 v l.length (idsV l)
section
variable {W W' : World} {base : Nat} {v : Value} {l u : List Id_}
theorem ownI_nil (W : World) (base : Nat) : OwnI W base (.slice none 0 0) [] := World.ownsRow_nil _ _ _ _
theorem rdI_own (h : OwnI W base v l) : ∃ A c, v = .slice A l.length c ∧ l.length ≤ c ∧ RdI W W.heap.size A l := by
  rcases h.2 with ⟨rfl, h0⟩ | ⟨g, cap, cur, rfl, hbg, hg, hc, _⟩
  · have : l = [] := List.eq_nil_of_length_eq_zero h0
    subst this
    exact ⟨none, 0, rfl, Nat.le_refl _, .inl rfl⟩
  · refine ⟨_, cap, rfl, hc, .inr ⟨_, rfl, (Array.getElem?_eq_some_iff.1 hg).1, fun j u hu => ?_⟩⟩
    have ea : (⟨g, 0, none⟩ : Addr).add j = ⟨g, j, none⟩ := by unfold Addr.add; split <;> simp_all
    have hj : j < (idsV l).length := (List.getElem?_eq_some_iff.1 hu).1
    rw [idsV_len] at hj
    rw [ea, h.cellAt j (by omega)]
    exact hu
theorem run_ownI {ty : TypeId} {m c : Nat} {A : Option Addr} (h : OwnI W base v l) (hu : RdI W W.heap.size A u) (hm : u.length = m) (hn : l.length + m ≤ 100000) (hbase : base ≤ W.heap.size) :
    ∃ v' W', (Builtin.append_ #[38, 38] ty #[v, .slice A m c]).run Tryz.prog W = .ok v' W' ∧ OwnI W' base v' (l ++ u) ∧ W.grownBy W' v.ownBlock := by
  obtain ⟨i0, hi0, hz0, hz1, hz2⟩ := info_parts info_id
  by_cases hm0 : m = 0
  · have hu0 : u = [] := List.eq_nil_of_length_eq_zero (by omega)
    subst hu0
    obtain ⟨A0, c0, rfl, hc0, _⟩ := rdI_own h
    subst hm0
    exact ⟨_, W, run_append_none Tryz.underlying38 hi0 hc0, by rw [List.append_nil]; exact h, ⟨rfl, rfl, rfl, Nat.le_refl _, fun _ _ _ => rfl⟩⟩
  · have hy := idsV_len u
    obtain ⟨a, rfl, hcell⟩ : ∃ a, A = some a ∧ ∀ (j : Nat) x, (idsV u)[j]? = some x → W.cell? (a.add j) = some x := by
      rcases hu with hy' | ⟨a, e, _, h⟩
      · rw [hy'] at hy; simp at hy; omega
      · exact ⟨a, e, h⟩
    obtain ⟨g, cap, W', hr, r1, r2, r3, r4⟩ := run_append_lies (P := Tryz.prog) (w := W) 38 ty base 31 i0 _ 2 16 Tryz.underlying38 hi0 hz0 hz1 hz2 rfl (by decide) v l.length (idsV l) h a m c (idsV u) (by rw [hy, hm]) hcell (idsV_one u) (by omega) (by unfold maxLen; omega) (by omega) hbase W.heap.size rfl
    refine ⟨_, W', hr, ?_, r2⟩
    show W'.ownsRow _ _ _ _ (l ++ u).length (idsV (l ++ u))
    rw [List.length_append, hm, idsV_app]
    exact r1
theorem wpList_ownI {ops : Array Oper} {rest : List Oper} {o : Oper} {a : Act} {Q : Exit → Act → World → Prop} (hgd : o.guard = none) (s x : Operand)
    (ho : o.op = .call { callee := .builtin .append, args := #[s, x], argTypes := #[38, 38] })
    (base m c : Nat) (v : Value) (A : Option Addr) (l u : List Id_) (hs : a.eval s = v) (hx : a.eval x = .slice A m c) (h : OwnI W base v l) (hu : RdI W W.heap.size A u)
    (hm : u.length = m) (hn : l.length + m ≤ 100000) (hbase : base ≤ W.heap.size)
    (hK : ∀ v' W', OwnI W' base v' (l ++ u) → W.grownBy W' v.ownBlock → wpList Tryz.prog ops Q rest (a.put o.dst v') W') : wpList Tryz.prog ops Q (o :: rest) a W := by
  refine wpList_plain hgd fun K hK' => ?_
  obtain ⟨v', W', hrun, h2, h3⟩ := run_ownI (ty := o.type) (c := c) h hu hm hn hbase
  unfold Oper.wp execOp
  simp only [ho, resolve, invoke, builtin, Sem.run_bind, Sem.run_pure, Result.andThen_ok, List.map_toArray, List.map_cons, List.map_nil, hs, hx, hrun]
  exact hK' _ _ (hK v' W' h2 h3)
end
end Pn
end Go.Proofs.YtfnhjflocfmcoaaGreat

namespace Go.Proofs.YtfnhjflocfmcoaaGreat
open Go.ChangeShapes Go.WideShapes Go.ChangeAt Go.RowKit Go.Deep
set_option linter.unusedVariables false
namespace Pn
open Tx Df Sq Hk Tr Pr Fl

/-- Patches that are handed in. -/
structure NmsArg (w : World) (A : Option Addr) (n c : Nat) (l : List Nm) : Prop where
  len : l.length = n
  cap : n ≤ c
  le : n ≤ maxLen
  rd : RdN w w.heap.size A l

section
variable {H : Type} {enc : TypeId × Value → H} {W : World} {base : Nat} {spare : Nat → Bool} {held : Bool}

theorem id_cells {fuel : Nat} {v0 v1 : Value} {x : DataW H × List MemPlace} (h : DataW.trod enc Tryz.prog W base spare held fuel 31 [v0, v1] = some x) : ∃ p : Id_, v0 = .int .i64 p.1 ∧ v1 = .int .i64 p.2 := by
  have s0 : Tryz.prog.cellsOf 3 = 1 := by kernel_rfl
  obtain ⟨xs, n, _, _, _, hlen, hf⟩ := DataW.trod_struct Tryz.underlying31 h
  match xs, hlen with
  | [y0, y1], _ =>
    have h0 : DataW.trod enc Tryz.prog W base spare held n 3 (([v0, v1].drop 0).take (Tryz.prog.cellsOf 3)) = some y0 := by simpa using hf 0 _ rfl
    have h1 : DataW.trod enc Tryz.prog W base spare held n 3 (([v0, v1].drop 1).take (Tryz.prog.cellsOf 3)) = some y1 := by simpa using hf 1 _ rfl
    simp only [s0, List.drop_zero, List.take_succ_cons, List.take_zero, List.drop_succ_cons] at h0 h1
    obtain ⟨k, e0, _, w0⟩ := DataW.trod_int Tryz.underlying3 h0
    injection e0 with e0
    subst e0
    obtain ⟨m, e1, _, w1⟩ := DataW.trod_int Tryz.underlying3 h1
    injection e1 with e1
    subst e1
    exact ⟨(k, m), rfl, rfl⟩

theorem array5 {α : Type} {a : Array α} (h : a.size = 5) : ∃ x0 x1 x2 x3 x4, a = #[x0, x1, x2, x3, x4] := by
  obtain ⟨l⟩ := a
  match l, h with
  | [x0, x1, x2, x3, x4], _ => exact ⟨x0, x1, x2, x3, x4, rfl⟩

theorem ids_any {fuel : Nat} {v : Value} {x : DataW H × List MemPlace} (h : DataW.trod enc Tryz.prog W base spare held fuel 38 [v] = some x) : ∃ A n c l, v = .slice A n c ∧ l.length = n ∧ n ≤ c ∧ n ≤ maxLen ∧ RdI W W.heap.size A l := by
  have s2 : Tryz.prog.cellsOf 31 = 2 := by kernel_rfl
  rcases open_slice Tryz.underlying38 h with ⟨hcs', _⟩ | ⟨a, len, cap, m, n, D, Pl, hcs', _, hl, hm, hmm, _, hi⟩
  · injection hcs' with hcs'
    subst hcs'
    exact ⟨none, 0, 0, [], rfl, rfl, Nat.le_refl _, Nat.zero_le _, .inl rfl⟩
  · injection hcs' with hcs'
    subst hcs'
    have hlm : len ≤ m := by rw [hmm]; split <;> omega
    rw [s2] at hi
    obtain ⟨t, h1, h2⟩ := list_of (P := fun i (x : Id_) => W.cell? (a.add (i * 2)) = some (.int .i64 x.1) ∧ W.cell? (a.add (i * 2 + 1)) = some (.int .i64 x.2)) len (fun i hil => by
      obtain ⟨cs', hc, ht⟩ := hi i (by omega)
      obtain ⟨_, hl2, hcell⟩ := World.cells?_some hc
      match cs', hl2 with
      | [v0, v1], _ =>
        obtain ⟨x, rfl, rfl⟩ := id_cells ht
        have k0 := hcell 0 (by decide); have k1 := hcell 1 (by decide)
        rw [add_zero'] at k0
        refine ⟨x, k0, ?_⟩
        rw [← Tx.add_add]
        have e : (⟨(a.add (i * 2)).block, (a.add (i * 2)).off + 1, none⟩ : Addr) = (a.add (i * 2)).add 1 := rfl
        exact k1)
    refine ⟨some a, len, cap, t, rfl, h1, hl, by omega, ?_⟩
    cases t with
    | nil => exact .inl rfl
    | cons e es =>
      have hb := lt_of_cell (h2 0 e rfl).1
      rw [add_block] at hb
      refine .inr ⟨a, rfl, hb, fun j u hu => ?_⟩
      have hj := (List.getElem?_eq_some_iff.1 hu).1
      rw [idsV_len] at hj
      have hk : j / 2 < (e :: es).length := by omega
      obtain ⟨g1, g2⟩ := idsV_at (List.getElem?_eq_getElem hk)
      obtain ⟨q1, q2⟩ := h2 (j / 2) _ (List.getElem?_eq_getElem hk)
      by_cases hp : j % 2 = 0
      · have ej : j = j / 2 * 2 := by omega
        rw [← ej] at g1 q1
        rw [hu] at g1
        injection g1 with g1
        rw [g1]
        exact q1
      · have ej : j = j / 2 * 2 + 1 := by omega
        rw [← ej] at g2 q2
        rw [hu] at g2
        injection g2 with g2
        rw [g2]
        exact q2
theorem prs_any {fuel : Nat} {v : Value} {x : DataW H × List MemPlace} (h : DataW.trod enc Tryz.prog W base spare held fuel 39 [v] = some x) : ∃ A n c l, v = .slice A n c ∧ PrsArg W A n c l := by
  obtain ⟨A, n, c, rfl⟩ : ∃ A n c, v = .slice A n c := by
    rcases open_slice Tryz.underlying39 h with ⟨hcs', _⟩ | ⟨a, len, cap, m, n, D, Pl, hcs', _⟩
    · injection hcs' with hcs'; exact ⟨_, _, _, hcs'⟩
    · injection hcs' with hcs'; exact ⟨_, _, _, hcs'⟩
  obtain ⟨l, hl⟩ := prs_in h rfl
  exact ⟨A, n, c, l, rfl, hl⟩

theorem nm_cells {fuel : Nat} {v0 v1 v2 v3 v4 : Value} {x : DataW H × List MemPlace} (h : DataW.trod enc Tryz.prog W base spare held fuel 41 [v0, v1, v2, v3, v4] = some x) :
    ∃ D dn dc A n c p, v0 = .int .i64 p.id.1 ∧ v1 = .int .i64 p.id.2 ∧ v2 = .slice D dn dc ∧ v3 = strV p.txt ∧ v4 = .slice A n c ∧ NV W W.heap.size D dn dc A n c p := by
  have s2 : Tryz.prog.cellsOf 31 = 2 := by kernel_rfl
  have s1 : Tryz.prog.cellsOf 9 = 1 := by kernel_rfl
  have s3 : Tryz.prog.cellsOf 38 = 1 := by kernel_rfl
  have s4 : Tryz.prog.cellsOf 39 = 1 := by kernel_rfl
  obtain ⟨xs, n, _, _, _, hlen, hf⟩ := DataW.trod_struct Tryz.underlying41 h
  match xs, hlen with
  | [y0, y1, y2, y3], _ =>
    have h0 : DataW.trod enc Tryz.prog W base spare held n 31 (([v0, v1, v2, v3, v4].drop 0).take (Tryz.prog.cellsOf 31)) = some y0 := by simpa using hf 0 _ rfl
    have h1 : DataW.trod enc Tryz.prog W base spare held n 38 (([v0, v1, v2, v3, v4].drop 2).take (Tryz.prog.cellsOf 38)) = some y1 := by simpa using hf 1 _ rfl
    have h2 : DataW.trod enc Tryz.prog W base spare held n 9 (([v0, v1, v2, v3, v4].drop 3).take (Tryz.prog.cellsOf 9)) = some y2 := by simpa using hf 2 _ rfl
    have h3 : DataW.trod enc Tryz.prog W base spare held n 39 (([v0, v1, v2, v3, v4].drop 4).take (Tryz.prog.cellsOf 39)) = some y3 := by simpa using hf 3 _ rfl
    simp only [s1, s2, s3, s4, List.drop_zero, List.take_succ_cons, List.take_zero, List.drop_succ_cons] at h0 h1 h2 h3
    obtain ⟨i, rfl, rfl⟩ := id_cells h0
    obtain ⟨D, dn, dc, ds, rfl, d1, d2, d3, d4⟩ := ids_any h1
    obtain ⟨s, e1, _, w1⟩ := DataW.trod_string Tryz.underlying9 h2
    injection e1 with e1
    subst e1
    obtain ⟨A, m, c, l, rfl, hl⟩ := prs_any h3
    refine ⟨D, dn, dc, A, m, c, ⟨i, ds, s.data.toList, l⟩, rfl, rfl, rfl, rfl, rfl, d1, d2, d3, d4, ?_, hl.len, hl.cap, hl.le, hl.rd⟩
    show s.data.toList.length ≤ _; rw [Array.length_toList]; exact w1

/-- A patch that is handed in. -/
theorem nm_in {r : Reach} {b0 : Nat} {v : Value} {d : DataW H} {p : List MemPlace} (hv : Value.okWide Tryz.prog W r b0 41 v) (h : DataW.Trod enc Tryz.prog W base spare held 41 v d p) :
    ∃ D dn dc A n c x, v = nmV x.id D dn dc x.txt A n c ∧ NV W W.heap.size D dn dc A n c x := by
  have s5 : Tryz.prog.cellsOf 41 = 5 := by kernel_rfl
  obtain ⟨cs, rfl, hsz⟩ := okWide_struct Tryz.underlying41 hv
  obtain ⟨v0, v1, v2, v3, v4, rfl⟩ := array5 (hsz.trans s5)
  obtain ⟨fuel, hf⟩ := h
  obtain ⟨D, dn, dc, A, n, c, x, rfl, rfl, rfl, rfl, rfl, hx⟩ := nm_cells (v0 := v0) (v1 := v1) (v2 := v2) (v3 := v3) (v4 := v4) (by simpa [Value.cells] using hf)
  exact ⟨D, dn, dc, A, n, c, x, rfl, hx⟩

/-- Patches that are handed in. -/
theorem nms_in {fuel : Nat} {cs : List Value} {x : DataW H × List MemPlace} {A : Option Addr} {l c : Nat} (h : DataW.trod enc Tryz.prog W base spare held fuel 22 cs = some x) (hcs : cs = [.slice A l c]) : ∃ t : List Nm, NmsArg W A l c t := by
  have s5 : Tryz.prog.cellsOf 41 = 5 := by kernel_rfl
  rcases open_slice Tryz.underlying22 h with ⟨hcs', _⟩ | ⟨a, len, cap, m, n, D, Pl, hcs', _, hl, hm, hmm, _, hi⟩
  · rw [hcs] at hcs'
    simp at hcs'
    obtain ⟨rfl, rfl, rfl⟩ := hcs'
    exact ⟨[], rfl, Nat.le_refl _, Nat.zero_le _, .inl rfl⟩
  · rw [hcs] at hcs'
    simp at hcs'
    obtain ⟨rfl, rfl, rfl⟩ := hcs'
    have hlm : l ≤ m := by rw [hmm]; split <;> omega
    rw [s5] at hi
    obtain ⟨t, h1, h2⟩ := list_of (P := fun i x => NAt W W.heap.size a i x) l (fun i hil => by
      obtain ⟨cs', hc, ht⟩ := hi i (by omega)
      obtain ⟨_, hl5, hcell⟩ := World.cells?_some hc
      match cs', hl5 with
      | [v0, v1, v2, v3, v4], _ =>
        obtain ⟨D, dn, dc, A, n, c, x, rfl, rfl, rfl, rfl, rfl, hx⟩ := nm_cells ht
        have k0 := hcell 0 (by decide); have k1 := hcell 1 (by decide); have k2 := hcell 2 (by decide); have k3 := hcell 3 (by decide); have k4 := hcell 4 (by decide)
        rw [add_zero'] at k0
        exact ⟨x, k0, k1, k3, D, dn, dc, A, n, c, k2, k4, hx⟩)
    refine ⟨t, h1, hl, by omega, ?_⟩
    cases t with
    | nil => exact .inl rfl
    | cons e es =>
      have hb := lt_of_cell (h2 0 e rfl).c0
      rw [add_block] at hb
      exact .inr ⟨a, rfl, hb, fun k x hx => h2 k x hx⟩
end

end Pn
end Go.Proofs.YtfnhjflocfmcoaaGreat

set_option maxRecDepth 100000
namespace Go.Proofs.YtfnhjflocfmcoaaGreat
open Go.RowKit
set_option linter.unusedVariables false
set_option linter.unusedSimpArgs false
namespace Pr
open Tx Df Sq Hk Tr

theorem NameB (x : List UInt8) (w : World) (b : Bool) (hx : x.length ≤ maxLen) (hb : name x = b) : Calls Tryz.prog 70 #[strV x] w fun e w' => e = .returned (.bool b) ∧ w = w' := by
  have := Name ⟨x.toArray⟩ w (by rw [size_strV]; exact hx)
  rw [← hb]
  simpa using this

/-- The box of a change with methods. -/
abbrev boxC (w : World) (k : Int) (nm to : List UInt8) (q : Int) (A : Option Addr) (n c : Nat) (A' : Option Addr) (n' c' : Nat) : World := w.alloc (.cells #[.int .i64 k, strV nm, strV to, .int .i64 q, .slice A n c, .slice A' n' c'] 105)
theorem below_box1 (w : World) (o : Obj) : Below w.heap.size w (w.alloc o) := (Below.refl _ _).alloc (Nat.le_refl _) _
theorem hv_mv {w w' : World} {A A' : Option Addr} {n c n' c' : Nat} {h : HU} (v : HV w w.heap.size A n c A' n' c' h) (hb : Below w.heap.size w w') : HV w' w'.heap.size A n c A' n' c' h := (v.below hb).up hb.size
theorem hv_none (w : World) (B : Nat) : HV w B none 0 0 none 0 0 noneH := ⟨rfl, rfl, Nat.le_refl _, Nat.le_refl _, Nat.zero_le _, Nat.zero_le _, .inl rfl, .inl rfl, by unfold I64; decide⟩
theorem sameH_none (h : HU) : sameH h noneH = noH h := by
  rw [Bool.eq_iff_iff, noH_iff]
  constructor
  · intro hs
    cases h
    simp only [sameH, noneH, Bool.and_eq_true] at hs ⊢
    obtain ⟨h1, h2, h3⟩ := hs
    obtain rfl := of_decide_eq_true h1
    obtain rfl := of_decide_eq_true h2
    obtain rfl := of_decide_eq_true h3
    rfl
  · rintro rfl
    decide
theorem below_via {w0 w w' : World} (h : Below w0.heap.size w0 w) (hb : Below w.heap.size w w') : Below w0.heap.size w0 w' := h.trans (hb.mono h.size)

set_option maxHeartbeats 1000000 in
theorem noHunk (A : Option Addr) (n c : Nat) (A' : Option Addr) (n' c' : Nat) (k : Int) (nm to : List UInt8) (q : Int) (h : HU) (w : World) (b : Bool) (hq : h.pos = q) (hv : HV w w.heap.size A n c A' n' c' h) (hb : noH h = b) :
    Calls Tryz.prog 120 #[prV k nm to q A n c A' n' c'] w (TestEnd w b) := by
  have hbx := below_box1 w (.cells #[.int .i64 k, strV nm, strV to, .int .i64 q, .slice A n c, .slice A' n' c'] 105)
  have h3 := SameH A n c A' n' c' none 0 0 none 0 0 (boxC w k nm to q A n c A' n' c').heap.size h noneH (boxC w k nm to q A n c A' n' c') (Nat.le_refl _) (hv_mv hv hbx) (hv_none _ _)
  rw [sameH_none, hb, hq] at h3
  have H3 := Lib.hid h3; have HBX := Lib.hid hbx
  clear h3 hbx hv hb hq
  go_enter Tryz.func120, Tryz.ntmps120
  go_wp2_with fail
  refine H3.out.mono ?_
  rintro e w1 ⟨rfl, hb1⟩
  have HB1 := Lib.hid (below_via HBX.out hb1)
  clear hb1
  go_wp2
  go_ret
  exact ⟨rfl, HB1.out⟩

set_option maxHeartbeats 1000000 in
theorem namesOne (A : Option Addr) (n c : Nat) (A' : Option Addr) (n' c' : Nat) (k : Int) (nm to : List UInt8) (q : Int) (h : HU) (w : World) (b : Bool) (hq : h.pos = q) (hv : HV w w.heap.size A n c A' n' c' h) (hb : (decide (to = []) && noH h) = b) :
    Calls Tryz.prog 99 #[prV k nm to q A n c A' n' c'] w (TestEnd w b) := by
  have hbx := below_box1 w (.cells #[.int .i64 k, strV nm, strV to, .int .i64 q, .slice A n c, .slice A' n' c'] 105)
  obtain ⟨bo, hbo⟩ : ∃ b, noH h = b := ⟨_, rfl⟩
  rw [hbo] at hb
  have h3 := noHunk A n c A' n' c' k nm to q h (boxC w k nm to q A n c A' n' c') bo hq (hv_mv hv hbx) hbo
  have H3 := Lib.hid h3; have HBX := Lib.hid hbx; have HB := Lib.hid hb
  clear h3 hbx hv hb hq hbo
  by_cases ht : to = []
  · subst ht
    go_enter Tryz.func99, Tryz.ntmps99
    go_wp2_with fail
    refine H3.out.mono ?_
    rintro e w1 ⟨rfl, hb1⟩
    have HB1 := Lib.hid (below_via HBX.out hb1)
    clear hb1
    go_wp2
    go_ret
    exact ⟨ret_bool (by rw [← HB.out]; simp), HB1.out⟩
  · have et : (to == []) = false := by simpa using ht
    go_enter Tryz.func99, Tryz.ntmps99
    go_wp2
    go_ret
    exact ⟨ret_bool (by rw [← HB.out, decide_eq_false ht]; simp), HBX.out⟩

set_option maxHeartbeats 1000000 in
theorem hasHunk (A : Option Addr) (n c : Nat) (A' : Option Addr) (n' c' : Nat) (k : Int) (nm to : List UInt8) (q : Int) (h : HU) (w : World) (b : Bool) (hq : h.pos = q) (hv : HV w w.heap.size A n c A' n' c' h) (hb : (decide (to = []) && mayH h) = b) :
    Calls Tryz.prog 101 #[prV k nm to q A n c A' n' c'] w (TestEnd w b) := by
  have hbx := below_box1 w (.cells #[.int .i64 k, strV nm, strV to, .int .i64 q, .slice A n c, .slice A' n' c'] 105)
  obtain ⟨bo, hbo⟩ : ∃ b, mayH h = b := ⟨_, rfl⟩
  rw [hbo] at hb
  have h3 := May A n c A' n' c' (boxC w k nm to q A n c A' n' c').heap.size h (boxC w k nm to q A n c A' n' c') (Nat.le_refl _) (hv_mv hv hbx)
  rw [hbo, hq] at h3
  have H3 := Lib.hid h3; have HBX := Lib.hid hbx; have HB := Lib.hid hb
  clear h3 hbx hv hb hq hbo
  by_cases ht : to = []
  · subst ht
    go_enter Tryz.func101, Tryz.ntmps101
    go_wp2_with fail
    refine H3.out.mono ?_
    rintro e w1 ⟨rfl, hb1⟩
    have HB1 := Lib.hid (below_via HBX.out hb1)
    clear hb1
    go_wp2
    go_ret
    exact ⟨ret_bool (by rw [← HB.out]; simp), HB1.out⟩
  · have et : (to == []) = false := by simpa using ht
    go_enter Tryz.func101, Tryz.ntmps101
    go_wp2
    go_ret
    exact ⟨ret_bool (by rw [← HB.out, decide_eq_false ht]; simp), HBX.out⟩

set_option maxHeartbeats 1000000 in
theorem hasLines (A : Option Addr) (n c : Nat) (A' : Option Addr) (n' c' : Nat) (k : Int) (nm to : List UInt8) (q : Int) (h : HU) (w : World) (b : Bool) (hq : h.pos = q) (hv : HV w w.heap.size A n c A' n' c' h) (hb : (decide (to = []) && (mayH h && decide (h.pos = 0))) = b) :
    Calls Tryz.prog 102 #[prV k nm to q A n c A' n' c'] w (TestEnd w b) := by
  have hbx := below_box1 w (.cells #[.int .i64 k, strV nm, strV to, .int .i64 q, .slice A n c, .slice A' n' c'] 105)
  obtain ⟨bo, hbo⟩ : ∃ b, (decide (to = []) && mayH h) = b := ⟨_, rfl⟩
  rw [← Bool.and_assoc, hbo, hq] at hb
  have h3 := hasHunk A n c A' n' c' k nm to q h (boxC w k nm to q A n c A' n' c') bo hq (hv_mv hv hbx) hbo
  have b0 := Blk.new w 105 #[.int .i64 k, strV nm, strV to, .int .i64 q, .slice A n c, .slice A' n' c']
  have H3 := Lib.hid h3; have HBX := Lib.hid hbx; have HB := Lib.hid hb; have B0 := Lib.hid b0
  clear h3 hbx hv hb hq hbo b0
  go_enter Tryz.func102, Tryz.ntmps102
  go_wp2_with fail
  refine H3.out.mono ?_
  rintro e w1 ⟨rfl, hb1⟩
  have HB1 := Lib.hid (below_via HBX.out hb1)
  have b1 := B0.out.below hb1 B0.out.lt
  have x3 : w1.cell? ⟨w.heap.size, 3, none⟩ = some (.int .i64 q) := b1.cell 3 rfl
  clear hb1 b1 B0
  cases bo with
  | false =>
    go_wp2
    go_ret
    exact ⟨ret_bool (by rw [← HB.out]; simp), HB1.out⟩
  | true =>
    by_cases h0 : q = 0
    · have e0 : (q == 0) = true := by simpa using h0
      go_wp2
      go_ret
      exact ⟨ret_bool (by rw [← HB.out, decide_eq_true h0]; simp), HB1.out⟩
    · have e0 : (q == 0) = false := by simpa using h0
      go_wp2
      go_ret
      exact ⟨ret_bool (by rw [← HB.out, decide_eq_false h0]; simp), HB1.out⟩

set_option maxHeartbeats 1000000 in
theorem namesTwo (A : Option Addr) (n c : Nat) (A' : Option Addr) (n' c' : Nat) (k : Int) (nm to : List UInt8) (q : Int) (h : HU) (w : World) (b : Bool) (hto : to.length ≤ maxLen) (hq : h.pos = q) (hv : HV w w.heap.size A n c A' n' c' h) (hb : (name to && (decide (to ≠ nm) && noH h)) = b) :
    Calls Tryz.prog 100 #[prV k nm to q A n c A' n' c'] w (TestEnd w b) := by
  have hbx := below_box1 w (.cells #[.int .i64 k, strV nm, strV to, .int .i64 q, .slice A n c, .slice A' n' c'] 105)
  obtain ⟨bo, hbo⟩ : ∃ b, noH h = b := ⟨_, rfl⟩
  obtain ⟨bn, hbn⟩ : ∃ b, name to = b := ⟨_, rfl⟩
  rw [hbo, hbn] at hb
  have h3 := noHunk A n c A' n' c' k nm to q h (boxC w k nm to q A n c A' n' c') bo hq (hv_mv hv hbx) hbo
  have HN := Lib.hid (fun w => NameB to w bn hto hbn)
  have H3 := Lib.hid h3; have HBX := Lib.hid hbx; have HB := Lib.hid hb
  clear h3 hbx hv hb hq hbo hbn
  go_enter Tryz.func100, Tryz.ntmps100
  go_wp2_with fail
  refine (HN.out _).mono ?_
  rintro e w1 ⟨rfl, rfl⟩
  cases bn with
  | false =>
    go_wp2
    go_ret
    exact ⟨ret_bool (by rw [← HB.out]; simp), HBX.out⟩
  | true =>
    by_cases ht : to = nm
    · have et : (to == nm) = true := by simpa using ht
      have HO : Hid (false = b) := Lib.hid (by rw [← HB.out]; simp [ht])
      clear ht
      go_wp2
      go_ret
      exact ⟨ret_bool HO.out, HBX.out⟩
    · have et : (to == nm) = false := by simpa using ht
      go_wp2_with fail
      refine H3.out.mono ?_
      rintro e w1 ⟨rfl, hb1⟩
      have HB1 := Lib.hid (below_via HBX.out hb1)
      clear hb1
      go_wp2
      go_ret
      exact ⟨ret_bool (by rw [← HB.out]; simp [ht]), HB1.out⟩

/-- Five cells are set. -/
theorem blk5 {W : World} {b : Nat} {t : TypeId} {x0 x1 x2 x3 x4 : Value} (h : Blk W b t #[x0, x1, x2, x3, x4]) (v0 v1 v2 v3 v4 : Value) : Blk (((((World.setCell W ⟨b, 0, none⟩ v0).setCell ⟨b, 1, none⟩ v1).setCell ⟨b, 2, none⟩ v2).setCell ⟨b, 3, none⟩ v3).setCell ⟨b, 4, none⟩ v4) b t #[v0, v1, v2, v3, v4] :=
  have b0 : Blk _ b t #[v0, x1, x2, x3, x4] := h.set 0 v0
  have b1 : Blk _ b t #[v0, v1, x2, x3, x4] := b0.set 1 v1
  have b2 : Blk _ b t #[v0, v1, v2, x3, x4] := b1.set 2 v2
  have b3 : Blk _ b t #[v0, v1, v2, v3, x4] := b2.set 3 v3
  have b4 : Blk _ b t #[v0, v1, v2, v3, v4] := b3.set 4 v4
  b4
theorem below5 {w W : World} {b : Nat} (hb : Below b w W) (v0 v1 v2 v3 v4 : Value) : Below b w (((((World.setCell W ⟨b, 0, none⟩ v0).setCell ⟨b, 1, none⟩ v1).setCell ⟨b, 2, none⟩ v2).setCell ⟨b, 3, none⟩ v3).setCell ⟨b, 4, none⟩ v4) :=
  ((((hb.setCell (p := ⟨b, 0, none⟩) (Nat.le_refl _) v0).setCell (p := ⟨b, 1, none⟩) (Nat.le_refl _) v1).setCell (p := ⟨b, 2, none⟩) (Nat.le_refl _) v2).setCell (p := ⟨b, 3, none⟩) (Nat.le_refl _) v3).setCell (p := ⟨b, 4, none⟩) (Nat.le_refl _) v4

set_option maxHeartbeats 1000000 in
theorem forms (w : World) : Calls Tryz.prog 71 #[] w fun e w' => e = .returned (.agg #[.func (.func 99) #[] #[], .func (.func 99) #[] #[], .func (.func 100) #[] #[], .func (.func 101) #[] #[], .func (.func 102) #[] #[]]) ∧ Below w.heap.size w w' := by
  have hb := below_box1 w (.cells #[.nilFunc, .nilFunc, .nilFunc, .nilFunc, .nilFunc] 126)
  have b0 := Blk.new w 126 #[.nilFunc, .nilFunc, .nilFunc, .nilFunc, .nilFunc]
  go_enter Tryz.func71, Tryz.ntmps71
  go_upto_region 1 with fail
  generalize w.alloc (.cells #[.nilFunc, .nilFunc, .nilFunc, .nilFunc, .nilFunc] 126) = w1 at *
  have x0 : w1.cell? ⟨w.heap.size, 0, none⟩ = some .nilFunc := b0.cell 0 rfl
  have f0 : w1.frozen? ⟨w.heap.size, 0, none⟩ = false := b0.frozen 0
  have x1 : w1.cell? ⟨w.heap.size, 1, none⟩ = some .nilFunc := b0.cell 1 rfl
  have f1 : w1.frozen? ⟨w.heap.size, 1, none⟩ = false := b0.frozen 1
  have x2 : w1.cell? ⟨w.heap.size, 2, none⟩ = some .nilFunc := b0.cell 2 rfl
  have f2 : w1.frozen? ⟨w.heap.size, 2, none⟩ = false := b0.frozen 2
  have x3 : w1.cell? ⟨w.heap.size, 3, none⟩ = some .nilFunc := b0.cell 3 rfl
  have f3 : w1.frozen? ⟨w.heap.size, 3, none⟩ = false := b0.frozen 3
  have x4 : w1.cell? ⟨w.heap.size, 4, none⟩ = some .nilFunc := b0.cell 4 rfl
  have f4 : w1.frozen? ⟨w.heap.size, 4, none⟩ = false := b0.frozen 4
  have b1 := blk5 b0 (.func (.func 99) #[] #[]) (.func (.func 99) #[] #[]) (.func (.func 100) #[] #[]) (.func (.func 101) #[] #[]) (.func (.func 102) #[] #[])
  have HB := Lib.hid (below5 hb (.func (.func 99) #[] #[]) (.func (.func 99) #[] #[]) (.func (.func 100) #[] #[]) (.func (.func 101) #[] #[]) (.func (.func 102) #[] #[])); have B1 := Lib.hid b1
  clear b0 b1 hb
  go_wp2
  have b1 := B1.out; have hb := HB.out
  clear x0 x1 x2 x3 x4 f0 f1 f2 f3 f4 B1 HB
  generalize (World.setCell (World.setCell (World.setCell (World.setCell (World.setCell w1 ⟨w.heap.size, 0, none⟩ (.func (.func 99) #[] #[])) ⟨w.heap.size, 1, none⟩ (.func (.func 99) #[] #[])) ⟨w.heap.size, 2, none⟩ (.func (.func 100) #[] #[])) ⟨w.heap.size, 3, none⟩ (.func (.func 101) #[] #[])) ⟨w.heap.size, 4, none⟩ (.func (.func 102) #[] #[])) = w2 at *
  have q0 : w2.cell? ⟨w.heap.size, 0, none⟩ = some (.func (.func 99) #[] #[]) := b1.cell 0 rfl
  have q1 : w2.cell? ⟨w.heap.size, 1, none⟩ = some (.func (.func 99) #[] #[]) := b1.cell 1 rfl
  have q2 : w2.cell? ⟨w.heap.size, 2, none⟩ = some (.func (.func 100) #[] #[]) := b1.cell 2 rfl
  have q3 : w2.cell? ⟨w.heap.size, 3, none⟩ = some (.func (.func 101) #[] #[]) := b1.cell 3 rfl
  have q4 : w2.cell? ⟨w.heap.size, 4, none⟩ = some (.func (.func 102) #[] #[]) := b1.cell 4 rfl
  refine bodyPost_ret (v := .agg #[.func (.func 99) #[] #[], .func (.func 99) #[] #[], .func (.func 100) #[] #[], .func (.func 101) #[] #[], .func (.func 102) #[] #[]]) (by simp [results, Tryz.results71, go_sem, q0, q1, q2, q3, q4]) rfl ?_
  exact ⟨rfl, hb⟩

theorem index_may (w : World) (i : Int) (f : Value) (hi : 0 ≤ i ∧ i < 5) (hf : (#[.func (.func 99) #[] #[], .func (.func 99) #[] #[], .func (.func 100) #[] #[], .func (.func 101) #[] #[], .func (.func 102) #[] #[]] : Array Value)[i.toNat]? = some f) :
    (Instr.index 126 (.agg #[.func (.func 99) #[] #[], .func (.func 99) #[] #[], .func (.func 100) #[] #[], .func (.func 101) #[] #[], .func (.func 102) #[] #[]]) (.int .i64 i)).run Tryz.prog w = .ok f w :=
  run_index_array Tryz.underlying126 hi (by kernel_rfl) (by kernel_rfl) hf

set_option maxHeartbeats 4000000 in
theorem MayP0 (A : Option Addr) (n c : Nat) (A' : Option Addr) (n' c' : Nat) (nm to : List UInt8) (q : Int) (w : World) (bn bm : Bool) (hn : nm.length ≤ maxLen) (hb : name nm = bn)
    (hm : ∀ w1, Below w.heap.size w w1 → Calls Tryz.prog 99 #[prV 0 nm to q A n c A' n' c'] w1 (TestEnd w1 bm)) :
    Calls Tryz.prog 55 #[prV 0 nm to q A n c A' n' c'] w (TestEnd w (bn && bm)) := by
  have HN := Lib.hid (fun w => NameB nm w bn hn hb)
  have hbx : Below w.heap.size w (box w 0 nm to q A n c A' n' c') := (Below.refl _ _).alloc (Nat.le_refl _) _
  have HBX := Lib.hid hbx; have H1 := Lib.hid hm
  have b0 := Blk.new w 55 #[.int .i64 0, strV nm, strV to, .int .i64 q, .slice A n c, .slice A' n' c']
  clear hbx hm hb
  go_enter Tryz.func55, Tryz.ntmps55
  go_wp2_with fail
  have HH : Hid (∀ w1, Below (box w 0 nm to q A n c A' n' c').heap.size (box w 0 nm to q A n c A' n' c').drew w1 → Blk w1 w.heap.size 55 #[.int .i64 0, strV nm, strV to, .int .i64 q, .slice A n c, .slice A' n' c']) := Lib.hid (fun w1 hb => (b0.drewN 1).below hb (by simp))
  have HT : Hid (∀ w1, Below (box w 0 nm to q A n c A' n' c').heap.size (box w 0 nm to q A n c A' n' c').drew w1 → Below w.heap.size w w1) := Lib.hid (fun w1 hb => (below_drewN HBX.out 1).trans (hb.mono HBX.out.size))
  have HBD : Hid (∀ d, Below w.heap.size w ((box w 0 nm to q A n c A' n' c').drewN d)) := Lib.hid (below_drewN HBX.out)
  generalize hW : box w 0 nm to q A n c A' n' c' = W at *
  unfold box at hW
  rw [hW] at b0 ⊢
  clear hW
  have x0 : W.cell? ⟨w.heap.size, 0, none⟩ = some (.int .i64 0) := b0.cell 0 rfl
  have x1 : W.cell? ⟨w.heap.size, 1, none⟩ = some (strV nm) := b0.cell 1 rfl
  have x2 : W.cell? ⟨w.heap.size, 2, none⟩ = some (strV to) := b0.cell 2 rfl
  have x3 : W.cell? ⟨w.heap.size, 3, none⟩ = some (.int .i64 q) := b0.cell 3 rfl
  have x4 : W.cell? ⟨w.heap.size, 4, none⟩ = some (.slice A n c) := b0.cell 4 rfl
  have x5 : W.cell? ⟨w.heap.size, 5, none⟩ = some (.slice A' n' c') := b0.cell 5 rfl
  clear b0
  have qi := fun w => index_may w 0 _ (by decide) rfl
  cases bn with
  | false =>
    have HN0 : Hid (∀ d : Nat, Calls Tryz.prog 70 #[strV nm] (W.drewN d) fun e w' => e = .returned (.bool false) ∧ ∃ m, w' = (W.drewN d).drewN m) := Lib.hid (fun d => (HN.out (W.drewN d)).mono (by rintro e w' ⟨rfl, rfl⟩; exact ⟨rfl, 0, rfl⟩))
    go_quiet (with_reducible exact Calls.quiet_of (HN0.out _))
    go_wp2
    go_ret
    exact ⟨rfl, HBD.out _⟩
  | true =>
    go_region_held3 (fun w' => w'.cell? ⟨w.heap.size, 0, none⟩ = some (.int .i64 0) ∧ w'.cell? ⟨w.heap.size, 1, none⟩ = some (strV nm) ∧ w'.cell? ⟨w.heap.size, 2, none⟩ = some (strV to) ∧ w'.cell? ⟨w.heap.size, 3, none⟩ = some (.int .i64 q) ∧ w'.cell? ⟨w.heap.size, 4, none⟩ = some (.slice A n c) ∧ w'.cell? ⟨w.heap.size, 5, none⟩ = some (.slice A' n' c'))
      (first | go_keep | (exact ⟨y0, y1, y2, y3, y4, y5⟩) | (exact ⟨z0, z1, z2, z3, z4, z5⟩))
      (first
        | (go_at_call 70; refine (HN.out W.drew).mono ?_; rintro e w1 ⟨rfl, rfl⟩)
        | (go_at_call 71; refine (forms W.drew).mono ?_; rintro e w1 ⟨rfl, hb1⟩; have b1 := HH.out w1 hb1; have hb01 := HT.out w1 hb1; have y0 : w1.cell? ⟨w.heap.size, 0, none⟩ = some (.int .i64 0) := b1.cell 0 rfl; have y1 : w1.cell? ⟨w.heap.size, 1, none⟩ = some (strV nm) := b1.cell 1 rfl; have y2 : w1.cell? ⟨w.heap.size, 2, none⟩ = some (strV to) := b1.cell 2 rfl; have y3 : w1.cell? ⟨w.heap.size, 3, none⟩ = some (.int .i64 q) := b1.cell 3 rfl; have y4 : w1.cell? ⟨w.heap.size, 4, none⟩ = some (.slice A n c) := b1.cell 4 rfl; have y5 : w1.cell? ⟨w.heap.size, 5, none⟩ = some (.slice A' n' c') := b1.cell 5 rfl; have HB1 := Lib.hid hb01; have B1 := Lib.hid b1; clear b1 hb1 hb01)
        | (go_at_call 99; refine (H1.out w1 HB1.out).mono ?_; rintro e w2 ⟨rfl, hb2⟩; have hb02 := below_via HB1.out hb2; have b2 := B1.out.below hb2 B1.out.lt; have z0 : w2.cell? ⟨w.heap.size, 0, none⟩ = some (.int .i64 0) := b2.cell 0 rfl; have z1 : w2.cell? ⟨w.heap.size, 1, none⟩ = some (strV nm) := b2.cell 1 rfl; have z2 : w2.cell? ⟨w.heap.size, 2, none⟩ = some (strV to) := b2.cell 2 rfl; have z3 : w2.cell? ⟨w.heap.size, 3, none⟩ = some (.int .i64 q) := b2.cell 3 rfl; have z4 : w2.cell? ⟨w.heap.size, 4, none⟩ = some (.slice A n c) := b2.cell 4 rfl; have z5 : w2.cell? ⟨w.heap.size, 5, none⟩ = some (.slice A' n' c') := b2.cell 5 rfl; have HB2 := Lib.hid hb02; clear b2 hb2 hb02))
    go_wp2
    go_ret
    exact ⟨ret_bool (by simp), HB2.out⟩

set_option maxHeartbeats 4000000 in
theorem MayP1 (A : Option Addr) (n c : Nat) (A' : Option Addr) (n' c' : Nat) (nm to : List UInt8) (q : Int) (w : World) (bn bm : Bool) (hn : nm.length ≤ maxLen) (hb : name nm = bn)
    (hm : ∀ w1, Below w.heap.size w w1 → Calls Tryz.prog 99 #[prV 1 nm to q A n c A' n' c'] w1 (TestEnd w1 bm)) :
    Calls Tryz.prog 55 #[prV 1 nm to q A n c A' n' c'] w (TestEnd w (bn && bm)) := by
  have HN := Lib.hid (fun w => NameB nm w bn hn hb)
  have hbx : Below w.heap.size w (box w 1 nm to q A n c A' n' c') := (Below.refl _ _).alloc (Nat.le_refl _) _
  have HBX := Lib.hid hbx; have H1 := Lib.hid hm
  have b0 := Blk.new w 55 #[.int .i64 1, strV nm, strV to, .int .i64 q, .slice A n c, .slice A' n' c']
  clear hbx hm hb
  go_enter Tryz.func55, Tryz.ntmps55
  go_wp2_with fail
  have HH : Hid (∀ w1, Below (box w 1 nm to q A n c A' n' c').heap.size (box w 1 nm to q A n c A' n' c').drew w1 → Blk w1 w.heap.size 55 #[.int .i64 1, strV nm, strV to, .int .i64 q, .slice A n c, .slice A' n' c']) := Lib.hid (fun w1 hb => (b0.drewN 1).below hb (by simp))
  have HT : Hid (∀ w1, Below (box w 1 nm to q A n c A' n' c').heap.size (box w 1 nm to q A n c A' n' c').drew w1 → Below w.heap.size w w1) := Lib.hid (fun w1 hb => (below_drewN HBX.out 1).trans (hb.mono HBX.out.size))
  have HBD : Hid (∀ d, Below w.heap.size w ((box w 1 nm to q A n c A' n' c').drewN d)) := Lib.hid (below_drewN HBX.out)
  generalize hW : box w 1 nm to q A n c A' n' c' = W at *
  unfold box at hW
  rw [hW] at b0 ⊢
  clear hW
  have x0 : W.cell? ⟨w.heap.size, 0, none⟩ = some (.int .i64 1) := b0.cell 0 rfl
  have x1 : W.cell? ⟨w.heap.size, 1, none⟩ = some (strV nm) := b0.cell 1 rfl
  have x2 : W.cell? ⟨w.heap.size, 2, none⟩ = some (strV to) := b0.cell 2 rfl
  have x3 : W.cell? ⟨w.heap.size, 3, none⟩ = some (.int .i64 q) := b0.cell 3 rfl
  have x4 : W.cell? ⟨w.heap.size, 4, none⟩ = some (.slice A n c) := b0.cell 4 rfl
  have x5 : W.cell? ⟨w.heap.size, 5, none⟩ = some (.slice A' n' c') := b0.cell 5 rfl
  clear b0
  have qi := fun w => index_may w 1 _ (by decide) rfl
  cases bn with
  | false =>
    have HN0 : Hid (∀ d : Nat, Calls Tryz.prog 70 #[strV nm] (W.drewN d) fun e w' => e = .returned (.bool false) ∧ ∃ m, w' = (W.drewN d).drewN m) := Lib.hid (fun d => (HN.out (W.drewN d)).mono (by rintro e w' ⟨rfl, rfl⟩; exact ⟨rfl, 0, rfl⟩))
    go_quiet (with_reducible exact Calls.quiet_of (HN0.out _))
    go_wp2
    go_ret
    exact ⟨rfl, HBD.out _⟩
  | true =>
    go_region_held3 (fun w' => w'.cell? ⟨w.heap.size, 0, none⟩ = some (.int .i64 1) ∧ w'.cell? ⟨w.heap.size, 1, none⟩ = some (strV nm) ∧ w'.cell? ⟨w.heap.size, 2, none⟩ = some (strV to) ∧ w'.cell? ⟨w.heap.size, 3, none⟩ = some (.int .i64 q) ∧ w'.cell? ⟨w.heap.size, 4, none⟩ = some (.slice A n c) ∧ w'.cell? ⟨w.heap.size, 5, none⟩ = some (.slice A' n' c'))
      (first | go_keep | (exact ⟨y0, y1, y2, y3, y4, y5⟩) | (exact ⟨z0, z1, z2, z3, z4, z5⟩))
      (first
        | (go_at_call 70; refine (HN.out W.drew).mono ?_; rintro e w1 ⟨rfl, rfl⟩)
        | (go_at_call 71; refine (forms W.drew).mono ?_; rintro e w1 ⟨rfl, hb1⟩; have b1 := HH.out w1 hb1; have hb01 := HT.out w1 hb1; have y0 : w1.cell? ⟨w.heap.size, 0, none⟩ = some (.int .i64 1) := b1.cell 0 rfl; have y1 : w1.cell? ⟨w.heap.size, 1, none⟩ = some (strV nm) := b1.cell 1 rfl; have y2 : w1.cell? ⟨w.heap.size, 2, none⟩ = some (strV to) := b1.cell 2 rfl; have y3 : w1.cell? ⟨w.heap.size, 3, none⟩ = some (.int .i64 q) := b1.cell 3 rfl; have y4 : w1.cell? ⟨w.heap.size, 4, none⟩ = some (.slice A n c) := b1.cell 4 rfl; have y5 : w1.cell? ⟨w.heap.size, 5, none⟩ = some (.slice A' n' c') := b1.cell 5 rfl; have HB1 := Lib.hid hb01; have B1 := Lib.hid b1; clear b1 hb1 hb01)
        | (go_at_call 99; refine (H1.out w1 HB1.out).mono ?_; rintro e w2 ⟨rfl, hb2⟩; have hb02 := below_via HB1.out hb2; have b2 := B1.out.below hb2 B1.out.lt; have z0 : w2.cell? ⟨w.heap.size, 0, none⟩ = some (.int .i64 1) := b2.cell 0 rfl; have z1 : w2.cell? ⟨w.heap.size, 1, none⟩ = some (strV nm) := b2.cell 1 rfl; have z2 : w2.cell? ⟨w.heap.size, 2, none⟩ = some (strV to) := b2.cell 2 rfl; have z3 : w2.cell? ⟨w.heap.size, 3, none⟩ = some (.int .i64 q) := b2.cell 3 rfl; have z4 : w2.cell? ⟨w.heap.size, 4, none⟩ = some (.slice A n c) := b2.cell 4 rfl; have z5 : w2.cell? ⟨w.heap.size, 5, none⟩ = some (.slice A' n' c') := b2.cell 5 rfl; have HB2 := Lib.hid hb02; clear b2 hb2 hb02))
    go_wp2
    go_ret
    exact ⟨ret_bool (by simp), HB2.out⟩

set_option maxHeartbeats 4000000 in
theorem MayP2 (A : Option Addr) (n c : Nat) (A' : Option Addr) (n' c' : Nat) (nm to : List UInt8) (q : Int) (w : World) (bn bm : Bool) (hn : nm.length ≤ maxLen) (hb : name nm = bn)
    (hm : ∀ w1, Below w.heap.size w w1 → Calls Tryz.prog 100 #[prV 2 nm to q A n c A' n' c'] w1 (TestEnd w1 bm)) :
    Calls Tryz.prog 55 #[prV 2 nm to q A n c A' n' c'] w (TestEnd w (bn && bm)) := by
  have HN := Lib.hid (fun w => NameB nm w bn hn hb)
  have hbx : Below w.heap.size w (box w 2 nm to q A n c A' n' c') := (Below.refl _ _).alloc (Nat.le_refl _) _
  have HBX := Lib.hid hbx; have H1 := Lib.hid hm
  have b0 := Blk.new w 55 #[.int .i64 2, strV nm, strV to, .int .i64 q, .slice A n c, .slice A' n' c']
  clear hbx hm hb
  go_enter Tryz.func55, Tryz.ntmps55
  go_wp2_with fail
  have HH : Hid (∀ w1, Below (box w 2 nm to q A n c A' n' c').heap.size (box w 2 nm to q A n c A' n' c').drew w1 → Blk w1 w.heap.size 55 #[.int .i64 2, strV nm, strV to, .int .i64 q, .slice A n c, .slice A' n' c']) := Lib.hid (fun w1 hb => (b0.drewN 1).below hb (by simp))
  have HT : Hid (∀ w1, Below (box w 2 nm to q A n c A' n' c').heap.size (box w 2 nm to q A n c A' n' c').drew w1 → Below w.heap.size w w1) := Lib.hid (fun w1 hb => (below_drewN HBX.out 1).trans (hb.mono HBX.out.size))
  have HBD : Hid (∀ d, Below w.heap.size w ((box w 2 nm to q A n c A' n' c').drewN d)) := Lib.hid (below_drewN HBX.out)
  generalize hW : box w 2 nm to q A n c A' n' c' = W at *
  unfold box at hW
  rw [hW] at b0 ⊢
  clear hW
  have x0 : W.cell? ⟨w.heap.size, 0, none⟩ = some (.int .i64 2) := b0.cell 0 rfl
  have x1 : W.cell? ⟨w.heap.size, 1, none⟩ = some (strV nm) := b0.cell 1 rfl
  have x2 : W.cell? ⟨w.heap.size, 2, none⟩ = some (strV to) := b0.cell 2 rfl
  have x3 : W.cell? ⟨w.heap.size, 3, none⟩ = some (.int .i64 q) := b0.cell 3 rfl
  have x4 : W.cell? ⟨w.heap.size, 4, none⟩ = some (.slice A n c) := b0.cell 4 rfl
  have x5 : W.cell? ⟨w.heap.size, 5, none⟩ = some (.slice A' n' c') := b0.cell 5 rfl
  clear b0
  have qi := fun w => index_may w 2 _ (by decide) rfl
  cases bn with
  | false =>
    have HN0 : Hid (∀ d : Nat, Calls Tryz.prog 70 #[strV nm] (W.drewN d) fun e w' => e = .returned (.bool false) ∧ ∃ m, w' = (W.drewN d).drewN m) := Lib.hid (fun d => (HN.out (W.drewN d)).mono (by rintro e w' ⟨rfl, rfl⟩; exact ⟨rfl, 0, rfl⟩))
    go_quiet (with_reducible exact Calls.quiet_of (HN0.out _))
    go_wp2
    go_ret
    exact ⟨rfl, HBD.out _⟩
  | true =>
    go_region_held3 (fun w' => w'.cell? ⟨w.heap.size, 0, none⟩ = some (.int .i64 2) ∧ w'.cell? ⟨w.heap.size, 1, none⟩ = some (strV nm) ∧ w'.cell? ⟨w.heap.size, 2, none⟩ = some (strV to) ∧ w'.cell? ⟨w.heap.size, 3, none⟩ = some (.int .i64 q) ∧ w'.cell? ⟨w.heap.size, 4, none⟩ = some (.slice A n c) ∧ w'.cell? ⟨w.heap.size, 5, none⟩ = some (.slice A' n' c'))
      (first | go_keep | (exact ⟨y0, y1, y2, y3, y4, y5⟩) | (exact ⟨z0, z1, z2, z3, z4, z5⟩))
      (first
        | (go_at_call 70; refine (HN.out W.drew).mono ?_; rintro e w1 ⟨rfl, rfl⟩)
        | (go_at_call 71; refine (forms W.drew).mono ?_; rintro e w1 ⟨rfl, hb1⟩; have b1 := HH.out w1 hb1; have hb01 := HT.out w1 hb1; have y0 : w1.cell? ⟨w.heap.size, 0, none⟩ = some (.int .i64 2) := b1.cell 0 rfl; have y1 : w1.cell? ⟨w.heap.size, 1, none⟩ = some (strV nm) := b1.cell 1 rfl; have y2 : w1.cell? ⟨w.heap.size, 2, none⟩ = some (strV to) := b1.cell 2 rfl; have y3 : w1.cell? ⟨w.heap.size, 3, none⟩ = some (.int .i64 q) := b1.cell 3 rfl; have y4 : w1.cell? ⟨w.heap.size, 4, none⟩ = some (.slice A n c) := b1.cell 4 rfl; have y5 : w1.cell? ⟨w.heap.size, 5, none⟩ = some (.slice A' n' c') := b1.cell 5 rfl; have HB1 := Lib.hid hb01; have B1 := Lib.hid b1; clear b1 hb1 hb01)
        | (go_at_call 100; refine (H1.out w1 HB1.out).mono ?_; rintro e w2 ⟨rfl, hb2⟩; have hb02 := below_via HB1.out hb2; have b2 := B1.out.below hb2 B1.out.lt; have z0 : w2.cell? ⟨w.heap.size, 0, none⟩ = some (.int .i64 2) := b2.cell 0 rfl; have z1 : w2.cell? ⟨w.heap.size, 1, none⟩ = some (strV nm) := b2.cell 1 rfl; have z2 : w2.cell? ⟨w.heap.size, 2, none⟩ = some (strV to) := b2.cell 2 rfl; have z3 : w2.cell? ⟨w.heap.size, 3, none⟩ = some (.int .i64 q) := b2.cell 3 rfl; have z4 : w2.cell? ⟨w.heap.size, 4, none⟩ = some (.slice A n c) := b2.cell 4 rfl; have z5 : w2.cell? ⟨w.heap.size, 5, none⟩ = some (.slice A' n' c') := b2.cell 5 rfl; have HB2 := Lib.hid hb02; clear b2 hb2 hb02))
    go_wp2
    go_ret
    exact ⟨ret_bool (by simp), HB2.out⟩

set_option maxHeartbeats 4000000 in
theorem MayP3 (A : Option Addr) (n c : Nat) (A' : Option Addr) (n' c' : Nat) (nm to : List UInt8) (q : Int) (w : World) (bn bm : Bool) (hn : nm.length ≤ maxLen) (hb : name nm = bn)
    (hm : ∀ w1, Below w.heap.size w w1 → Calls Tryz.prog 101 #[prV 3 nm to q A n c A' n' c'] w1 (TestEnd w1 bm)) :
    Calls Tryz.prog 55 #[prV 3 nm to q A n c A' n' c'] w (TestEnd w (bn && bm)) := by
  have HN := Lib.hid (fun w => NameB nm w bn hn hb)
  have hbx : Below w.heap.size w (box w 3 nm to q A n c A' n' c') := (Below.refl _ _).alloc (Nat.le_refl _) _
  have HBX := Lib.hid hbx; have H1 := Lib.hid hm
  have b0 := Blk.new w 55 #[.int .i64 3, strV nm, strV to, .int .i64 q, .slice A n c, .slice A' n' c']
  clear hbx hm hb
  go_enter Tryz.func55, Tryz.ntmps55
  go_wp2_with fail
  have HH : Hid (∀ w1, Below (box w 3 nm to q A n c A' n' c').heap.size (box w 3 nm to q A n c A' n' c').drew w1 → Blk w1 w.heap.size 55 #[.int .i64 3, strV nm, strV to, .int .i64 q, .slice A n c, .slice A' n' c']) := Lib.hid (fun w1 hb => (b0.drewN 1).below hb (by simp))
  have HT : Hid (∀ w1, Below (box w 3 nm to q A n c A' n' c').heap.size (box w 3 nm to q A n c A' n' c').drew w1 → Below w.heap.size w w1) := Lib.hid (fun w1 hb => (below_drewN HBX.out 1).trans (hb.mono HBX.out.size))
  have HBD : Hid (∀ d, Below w.heap.size w ((box w 3 nm to q A n c A' n' c').drewN d)) := Lib.hid (below_drewN HBX.out)
  generalize hW : box w 3 nm to q A n c A' n' c' = W at *
  unfold box at hW
  rw [hW] at b0 ⊢
  clear hW
  have x0 : W.cell? ⟨w.heap.size, 0, none⟩ = some (.int .i64 3) := b0.cell 0 rfl
  have x1 : W.cell? ⟨w.heap.size, 1, none⟩ = some (strV nm) := b0.cell 1 rfl
  have x2 : W.cell? ⟨w.heap.size, 2, none⟩ = some (strV to) := b0.cell 2 rfl
  have x3 : W.cell? ⟨w.heap.size, 3, none⟩ = some (.int .i64 q) := b0.cell 3 rfl
  have x4 : W.cell? ⟨w.heap.size, 4, none⟩ = some (.slice A n c) := b0.cell 4 rfl
  have x5 : W.cell? ⟨w.heap.size, 5, none⟩ = some (.slice A' n' c') := b0.cell 5 rfl
  clear b0
  have qi := fun w => index_may w 3 _ (by decide) rfl
  cases bn with
  | false =>
    have HN0 : Hid (∀ d : Nat, Calls Tryz.prog 70 #[strV nm] (W.drewN d) fun e w' => e = .returned (.bool false) ∧ ∃ m, w' = (W.drewN d).drewN m) := Lib.hid (fun d => (HN.out (W.drewN d)).mono (by rintro e w' ⟨rfl, rfl⟩; exact ⟨rfl, 0, rfl⟩))
    go_quiet (with_reducible exact Calls.quiet_of (HN0.out _))
    go_wp2
    go_ret
    exact ⟨rfl, HBD.out _⟩
  | true =>
    go_region_held3 (fun w' => w'.cell? ⟨w.heap.size, 0, none⟩ = some (.int .i64 3) ∧ w'.cell? ⟨w.heap.size, 1, none⟩ = some (strV nm) ∧ w'.cell? ⟨w.heap.size, 2, none⟩ = some (strV to) ∧ w'.cell? ⟨w.heap.size, 3, none⟩ = some (.int .i64 q) ∧ w'.cell? ⟨w.heap.size, 4, none⟩ = some (.slice A n c) ∧ w'.cell? ⟨w.heap.size, 5, none⟩ = some (.slice A' n' c'))
      (first | go_keep | (exact ⟨y0, y1, y2, y3, y4, y5⟩) | (exact ⟨z0, z1, z2, z3, z4, z5⟩))
      (first
        | (go_at_call 70; refine (HN.out W.drew).mono ?_; rintro e w1 ⟨rfl, rfl⟩)
        | (go_at_call 71; refine (forms W.drew).mono ?_; rintro e w1 ⟨rfl, hb1⟩; have b1 := HH.out w1 hb1; have hb01 := HT.out w1 hb1; have y0 : w1.cell? ⟨w.heap.size, 0, none⟩ = some (.int .i64 3) := b1.cell 0 rfl; have y1 : w1.cell? ⟨w.heap.size, 1, none⟩ = some (strV nm) := b1.cell 1 rfl; have y2 : w1.cell? ⟨w.heap.size, 2, none⟩ = some (strV to) := b1.cell 2 rfl; have y3 : w1.cell? ⟨w.heap.size, 3, none⟩ = some (.int .i64 q) := b1.cell 3 rfl; have y4 : w1.cell? ⟨w.heap.size, 4, none⟩ = some (.slice A n c) := b1.cell 4 rfl; have y5 : w1.cell? ⟨w.heap.size, 5, none⟩ = some (.slice A' n' c') := b1.cell 5 rfl; have HB1 := Lib.hid hb01; have B1 := Lib.hid b1; clear b1 hb1 hb01)
        | (go_at_call 101; refine (H1.out w1 HB1.out).mono ?_; rintro e w2 ⟨rfl, hb2⟩; have hb02 := below_via HB1.out hb2; have b2 := B1.out.below hb2 B1.out.lt; have z0 : w2.cell? ⟨w.heap.size, 0, none⟩ = some (.int .i64 3) := b2.cell 0 rfl; have z1 : w2.cell? ⟨w.heap.size, 1, none⟩ = some (strV nm) := b2.cell 1 rfl; have z2 : w2.cell? ⟨w.heap.size, 2, none⟩ = some (strV to) := b2.cell 2 rfl; have z3 : w2.cell? ⟨w.heap.size, 3, none⟩ = some (.int .i64 q) := b2.cell 3 rfl; have z4 : w2.cell? ⟨w.heap.size, 4, none⟩ = some (.slice A n c) := b2.cell 4 rfl; have z5 : w2.cell? ⟨w.heap.size, 5, none⟩ = some (.slice A' n' c') := b2.cell 5 rfl; have HB2 := Lib.hid hb02; clear b2 hb2 hb02))
    go_wp2
    go_ret
    exact ⟨ret_bool (by simp), HB2.out⟩

set_option maxHeartbeats 4000000 in
theorem MayP4 (A : Option Addr) (n c : Nat) (A' : Option Addr) (n' c' : Nat) (nm to : List UInt8) (q : Int) (w : World) (bn bm : Bool) (hn : nm.length ≤ maxLen) (hb : name nm = bn)
    (hm : ∀ w1, Below w.heap.size w w1 → Calls Tryz.prog 102 #[prV 4 nm to q A n c A' n' c'] w1 (TestEnd w1 bm)) :
    Calls Tryz.prog 55 #[prV 4 nm to q A n c A' n' c'] w (TestEnd w (bn && bm)) := by
  have HN := Lib.hid (fun w => NameB nm w bn hn hb)
  have hbx : Below w.heap.size w (box w 4 nm to q A n c A' n' c') := (Below.refl _ _).alloc (Nat.le_refl _) _
  have HBX := Lib.hid hbx; have H1 := Lib.hid hm
  have b0 := Blk.new w 55 #[.int .i64 4, strV nm, strV to, .int .i64 q, .slice A n c, .slice A' n' c']
  clear hbx hm hb
  go_enter Tryz.func55, Tryz.ntmps55
  go_wp2_with fail
  have HH : Hid (∀ w1, Below (box w 4 nm to q A n c A' n' c').heap.size (box w 4 nm to q A n c A' n' c').drew w1 → Blk w1 w.heap.size 55 #[.int .i64 4, strV nm, strV to, .int .i64 q, .slice A n c, .slice A' n' c']) := Lib.hid (fun w1 hb => (b0.drewN 1).below hb (by simp))
  have HT : Hid (∀ w1, Below (box w 4 nm to q A n c A' n' c').heap.size (box w 4 nm to q A n c A' n' c').drew w1 → Below w.heap.size w w1) := Lib.hid (fun w1 hb => (below_drewN HBX.out 1).trans (hb.mono HBX.out.size))
  have HBD : Hid (∀ d, Below w.heap.size w ((box w 4 nm to q A n c A' n' c').drewN d)) := Lib.hid (below_drewN HBX.out)
  generalize hW : box w 4 nm to q A n c A' n' c' = W at *
  unfold box at hW
  rw [hW] at b0 ⊢
  clear hW
  have x0 : W.cell? ⟨w.heap.size, 0, none⟩ = some (.int .i64 4) := b0.cell 0 rfl
  have x1 : W.cell? ⟨w.heap.size, 1, none⟩ = some (strV nm) := b0.cell 1 rfl
  have x2 : W.cell? ⟨w.heap.size, 2, none⟩ = some (strV to) := b0.cell 2 rfl
  have x3 : W.cell? ⟨w.heap.size, 3, none⟩ = some (.int .i64 q) := b0.cell 3 rfl
  have x4 : W.cell? ⟨w.heap.size, 4, none⟩ = some (.slice A n c) := b0.cell 4 rfl
  have x5 : W.cell? ⟨w.heap.size, 5, none⟩ = some (.slice A' n' c') := b0.cell 5 rfl
  clear b0
  have qi := fun w => index_may w 4 _ (by decide) rfl
  cases bn with
  | false =>
    have HN0 : Hid (∀ d : Nat, Calls Tryz.prog 70 #[strV nm] (W.drewN d) fun e w' => e = .returned (.bool false) ∧ ∃ m, w' = (W.drewN d).drewN m) := Lib.hid (fun d => (HN.out (W.drewN d)).mono (by rintro e w' ⟨rfl, rfl⟩; exact ⟨rfl, 0, rfl⟩))
    go_quiet (with_reducible exact Calls.quiet_of (HN0.out _))
    go_wp2
    go_ret
    exact ⟨rfl, HBD.out _⟩
  | true =>
    go_region_held3 (fun w' => w'.cell? ⟨w.heap.size, 0, none⟩ = some (.int .i64 4) ∧ w'.cell? ⟨w.heap.size, 1, none⟩ = some (strV nm) ∧ w'.cell? ⟨w.heap.size, 2, none⟩ = some (strV to) ∧ w'.cell? ⟨w.heap.size, 3, none⟩ = some (.int .i64 q) ∧ w'.cell? ⟨w.heap.size, 4, none⟩ = some (.slice A n c) ∧ w'.cell? ⟨w.heap.size, 5, none⟩ = some (.slice A' n' c'))
      (first | go_keep | (exact ⟨y0, y1, y2, y3, y4, y5⟩) | (exact ⟨z0, z1, z2, z3, z4, z5⟩))
      (first
        | (go_at_call 70; refine (HN.out W.drew).mono ?_; rintro e w1 ⟨rfl, rfl⟩)
        | (go_at_call 71; refine (forms W.drew).mono ?_; rintro e w1 ⟨rfl, hb1⟩; have b1 := HH.out w1 hb1; have hb01 := HT.out w1 hb1; have y0 : w1.cell? ⟨w.heap.size, 0, none⟩ = some (.int .i64 4) := b1.cell 0 rfl; have y1 : w1.cell? ⟨w.heap.size, 1, none⟩ = some (strV nm) := b1.cell 1 rfl; have y2 : w1.cell? ⟨w.heap.size, 2, none⟩ = some (strV to) := b1.cell 2 rfl; have y3 : w1.cell? ⟨w.heap.size, 3, none⟩ = some (.int .i64 q) := b1.cell 3 rfl; have y4 : w1.cell? ⟨w.heap.size, 4, none⟩ = some (.slice A n c) := b1.cell 4 rfl; have y5 : w1.cell? ⟨w.heap.size, 5, none⟩ = some (.slice A' n' c') := b1.cell 5 rfl; have HB1 := Lib.hid hb01; have B1 := Lib.hid b1; clear b1 hb1 hb01)
        | (go_at_call 102; refine (H1.out w1 HB1.out).mono ?_; rintro e w2 ⟨rfl, hb2⟩; have hb02 := below_via HB1.out hb2; have b2 := B1.out.below hb2 B1.out.lt; have z0 : w2.cell? ⟨w.heap.size, 0, none⟩ = some (.int .i64 4) := b2.cell 0 rfl; have z1 : w2.cell? ⟨w.heap.size, 1, none⟩ = some (strV nm) := b2.cell 1 rfl; have z2 : w2.cell? ⟨w.heap.size, 2, none⟩ = some (strV to) := b2.cell 2 rfl; have z3 : w2.cell? ⟨w.heap.size, 3, none⟩ = some (.int .i64 q) := b2.cell 3 rfl; have z4 : w2.cell? ⟨w.heap.size, 4, none⟩ = some (.slice A n c) := b2.cell 4 rfl; have z5 : w2.cell? ⟨w.heap.size, 5, none⟩ = some (.slice A' n' c') := b2.cell 5 rfl; have HB2 := Lib.hid hb02; clear b2 hb2 hb02))
    go_wp2
    go_ret
    exact ⟨ret_bool (by simp), HB2.out⟩

set_option maxHeartbeats 1000000 in
theorem MayNo (A : Option Addr) (n c : Nat) (A' : Option Addr) (n' c' : Nat) (k : Int) (nm to : List UInt8) (q : Int) (w : World) (hk : k < 0 ∨ 5 ≤ k) :
    Calls Tryz.prog 55 #[prV k nm to q A n c A' n' c'] w (TestEnd w false) := by
  have hbx : Below w.heap.size w (box w k nm to q A n c A' n' c') := (Below.refl _ _).alloc (Nat.le_refl _) _
  have HBX := Lib.hid hbx; clear hbx
  by_cases h0 : k < 0
  · go_enter Tryz.func55, Tryz.ntmps55
    go_wp2
    go_ret
    exact ⟨rfl, HBX.out⟩
  · have h5 : 5 ≤ k := by omega
    have h6 : ¬ k < 5 := by omega
    go_enter Tryz.func55, Tryz.ntmps55
    go_wp2
    go_ret
    exact ⟨rfl, HBX.out⟩

theorem MayP (A : Option Addr) (n c : Nat) (A' : Option Addr) (n' c' : Nat) (p : Ch) (w : World) (b : Bool) (hv : PV w w.heap.size A n c A' n' c' p) (hb : mayP p = b) :
    Calls Tryz.prog 55 #[prV p.k p.nm p.to p.h.pos A n c A' n' c'] w (TestEnd w b) := by
  obtain ⟨k, nm, to, h⟩ := p
  dsimp only at hv ⊢
  rcases kinds k with rfl | rfl | rfl | rfl | rfl | ⟨e0, e1, e2, e3, e4⟩
  · have h1 := MayP0 A n c A' n' c' nm to h.pos w (name nm) (decide (to = []) && noH h) hv.nm rfl (fun w1 hb1 => namesOne A n c A' n' c' 0 nm to h.pos h w1 _ rfl (hv_mv hv.h hb1) rfl)
    rw [← hb]; exact h1
  · have h1 := MayP1 A n c A' n' c' nm to h.pos w (name nm) (decide (to = []) && noH h) hv.nm rfl (fun w1 hb1 => namesOne A n c A' n' c' 1 nm to h.pos h w1 _ rfl (hv_mv hv.h hb1) rfl)
    rw [← hb]; exact h1
  · have h1 := MayP2 A n c A' n' c' nm to h.pos w (name nm) (name to && (decide (to ≠ nm) && noH h)) hv.nm rfl (fun w1 hb1 => namesTwo A n c A' n' c' 2 nm to h.pos h w1 _ hv.to rfl (hv_mv hv.h hb1) rfl)
    rw [← hb]; exact h1
  · have h1 := MayP3 A n c A' n' c' nm to h.pos w (name nm) (decide (to = []) && mayH h) hv.nm rfl (fun w1 hb1 => hasHunk A n c A' n' c' 3 nm to h.pos h w1 _ rfl (hv_mv hv.h hb1) rfl)
    rw [← hb]; exact h1
  · have h1 := MayP4 A n c A' n' c' nm to h.pos w (name nm) (decide (to = []) && (mayH h && decide (h.pos = 0))) hv.nm rfl (fun w1 hb1 => hasLines A n c A' n' c' 4 nm to h.pos h w1 _ rfl (hv_mv hv.h hb1) rfl)
    rw [← hb]; exact h1
  · rw [beq_eq_false_iff_ne] at e0 e1 e2 e3 e4
    have hf : mayP ⟨k, nm, to, h⟩ = false := by simp [mayP, e0, e1, e2, e3, e4]
    rw [← hb, hf]
    exact MayNo A n c A' n' c' k nm to h.pos w (by omega)

end Pr
end Go.Proofs.YtfnhjflocfmcoaaGreat

set_option maxRecDepth 100000
namespace Go.Proofs.YtfnhjflocfmcoaaGreat
open Go.RowKit
set_option linter.unusedVariables false
set_option linter.unusedSimpArgs false
namespace Pr
open Tx Df Sq Hk Tr

section
variable {w W X Y : World} {base n T b : Nat} {A : Option Addr} {k : Nat} {xs : List Value}
end

/-- How Turn ends: the same as PTEnd, of lines in memory of their own. -/
def PTEndH (w : World) (q : Ch) (e : Ending) (w' : World) : Prop :=
  ∃ A n c A' n' c', e = .returned (prV q.k q.nm q.to q.h.pos A n c A' n' c') ∧ PV w' w'.heap.size A n c A' n' c' q ∧ q.h.old.length = n ∧ q.h.new.length = n' ∧ (Hi w.heap.size A ∧ Hi w.heap.size A') ∧ Below w.heap.size w w'
theorem PTEndH.end_ {w w' : World} {q : Ch} {e : Ending} (h : PTEndH w q e w') : PTEnd w q e w' := by
  obtain ⟨A, n, c, A', n', c', h1, h2, h3, h4, _, h5⟩ := h
  exact ⟨A, n, c, A', n', c', h1, h2, h3, h4, h5⟩
end Pr
end Go.Proofs.YtfnhjflocfmcoaaGreat

set_option maxRecDepth 100000
namespace Go.Proofs.YtfnhjflocfmcoaaGreat
open Go.RowKit
set_option linter.unusedVariables false
namespace Tr
open Tx

/-- How Insert ends: a new row. -/
def InsEnd (w : World) (n i : Nat) (xs ys : List Value) (e : Ending) (w' : World) : Prop :=
  ∃ g cap, e = .returned (.slice (some ⟨g, 0, none⟩) (n + 1) cap) ∧ w'.ownsRow w.heap.size 51 2 (.slice (some ⟨g, 0, none⟩) (n + 1) cap) (n + 1) (xs.take (i * 2) ++ (ys ++ xs.drop (i * 2))) ∧ Below w.heap.size w w'

theorem run_append_type {P : Program} {w : World} {t tx ty e e' : TypeId} {i : TypeInfo} {b : Option Addr} {n c : Nat} {x : Value} (ht : P.underlying t = some (.slice e)) (hx : P.underlying tx = some (.slice e')) (hi : P.info? e = some i) :
    (Builtin.append_ #[t, tx] ty #[.slice b n c, x]).run P w = (Builtin.append_ #[t, t] ty #[.slice b n c, x]).run P w := by
  simp [Builtin.append_, run_underlying ht, run_underlying hx, sizeOf, typeInfo, hi]

theorem splice_end {α : Type} {P D X : List α} {p : Nat} (h : P.length = p) (h2 : D.length ≤ X.length) : splice (P ++ D) p X = P ++ X := by
  unfold splice
  subst h
  rw [List.take_left, List.drop_of_length_le (by rw [List.length_append]; omega), List.append_nil]

theorem own_form {w : World} {base e size n : Nat} {v : Value} {xs : List Value} (h : w.ownsRow base e size v n xs) (hn : 0 < n) : ∃ g cap, v = .slice (some ⟨g, 0, none⟩) n cap := by
  rcases h.2 with ⟨_, h0⟩ | ⟨g, cap, cur, rfl, _⟩
  · omega
  · exact ⟨g, cap, rfl⟩

set_option maxHeartbeats 2000000 in
/-- At the end: an append. -/
theorem Insert_end (g n base B vb : Nat) (xs ys : List Value) (w : World) (hn : n ≤ 3518437208800) (hrow : w.ownsRow base 51 2 (.slice (some ⟨g, 0, none⟩) n n) n xs) (hv : ∀ j u, ys[j]? = some u → w.cell? ((⟨vb, 0, none⟩ : Addr).add j) = some u) (hy : ys.length = 2) :
    Calls Tryz.prog 126 #[.slice (some ⟨g, 0, none⟩) n n, .int .i64 (n : Int), .slice (some ⟨vb, 0, none⟩) 1 1] w (InsEnd w n n xs ys) := by
  obtain ⟨i0, hi0, hz0, hz1, hz2⟩ := info_parts info_file
  have HROW := Lib.hid hrow
  have HV := Lib.hid hv
  have HY := Lib.hid hy
  clear hrow hv hy
  obtain ⟨v', w', hrun, hown, hg⟩ := run_append_arg_grows (P := Tryz.prog) w 43 43 51 i0 _ 2 40 Tryz.underlying43 hi0 hz0 hz1 hz2 rfl (by decide) ⟨g, 0, none⟩ n n xs HROW.out.1 (HROW.out.cells rfl) ⟨vb, 0, none⟩ 1 1 ys (by rw [HY.out]) HV.out (by omega) (by unfold maxLen; omega) (by omega)
  obtain ⟨g', cap, rfl⟩ := own_form hown (by omega)
  rw [← run_append_type Tryz.underlying43 Tryz.underlying42 hi0] at hrun
  have HO := Lib.hid hown; have HG := Lib.hid hg; have HRUN := Lib.hid hrun
  clear hown hg hrun
  go_enter Tryz.func126, Tryz.ntmps126
  go_wp2_with (at_builtin; refine Lib.wpList_append_run _ rfl _ _ _ _ rfl _ _ rfl rfl _ _ HRUN.out ?_)
  go_ret
  refine ⟨g', cap, rfl, ?_, below_gr HG.out⟩
  rw [List.take_of_length_le (by rw [HROW.out.1]; exact Nat.le_refl _), List.drop_of_length_le (by rw [HROW.out.1]; exact Nat.le_refl _), List.append_nil]
  exact HO.out

set_option maxRecDepth 100000 in
set_option maxHeartbeats 4000000 in
/-- Ahead of the end. -/
theorem Insert_mid (g n i base vb : Nat) (xs ys : List Value) (w : World) (hn : n ≤ 3518437208800) (hi : i < n) (hrow : w.ownsRow base 51 2 (.slice (some ⟨g, 0, none⟩) n n) n xs) (hv : ∀ j u, ys[j]? = some u → w.cell? ((⟨vb, 0, none⟩ : Addr).add j) = some u) (hy : ys.length = 2) (h1x : ∀ u ∈ xs, u.oneCell' = true) (h1y : ∀ u ∈ ys, u.oneCell' = true) (hvb : vb < w.heap.size) :
    Calls Tryz.prog 126 #[.slice (some ⟨g, 0, none⟩) n n, .int .i64 (i : Int), .slice (some ⟨vb, 0, none⟩) 1 1] w (InsEnd w n i xs ys) := by
  obtain ⟨i0, hi0, hz0, hz1, hz2⟩ := info_parts info_file
  have hrz : ∀ ty, ∃ G Z, (Builtin.append_ #[43, 3] ty #[.slice (some ⟨g, 0, none⟩) i n, .int .i64 ((n : Int) + 1 - (i : Int))]).run Tryz.prog w =
      .ok (.slice (some ⟨w.heap.size, 0, none⟩) (n + 1) G) (w.drew.alloc (.cells ((xs.take (i * 2)).toArray ++ Z) 51)) ∧ ((xs.take (i * 2)).toArray ++ Z).size = G * 2 ∧ n + 1 ≤ G ∧ G ≤ maxLen := by
    intro ty
    have h := Lib.run_append_grow_zeros (P := Tryz.prog) w 43 3 ty 51 i0 _ .i64 .i64 Tryz.underlying43 Tryz.underlying3 hi0 hz0 (some ⟨g, 0, none⟩) i n (xs.take (i * 2)) (by
      have := run_loadCells_list (P := Tryz.prog) w.drew ⟨g, 0, none⟩ (xs.take (i * 2)) (fun j u hu => by
        rw [List.getElem?_take] at hu
        split at hu
        · exact hrow.cells rfl j u hu
        · cases hu)
      rw [List.length_take, hrow.1, Nat.min_eq_left (by omega)] at this
      simp only [Builtin.firstCells, hz1]
      exact this) (n + 1 - i) (by omega) (by rw [hz1]; decide) (by omega) (by omega) (by rw [hz2]; omega) (by
        rw [hz2]
        exact growslice_fits (by omega) (by omega))
    rw [show i + (n + 1 - i) = n + 1 by omega, show ((n + 1 - i : Nat) : Int) = (n : Int) + 1 - (i : Int) by omega, Array.append_assoc] at h
    have hge := grownCap_ge w (n + 1) n 51
    refine ⟨_, _, h, ?_, hge, grownCap_le_maxLen w (n + 1) n 51 (by unfold maxLen; omega)⟩
    simp only [Array.size_append, List.size_toArray, size_zeroCells, List.length_take, hrow.1, show (Value.agg #[.string ⟨#[]⟩, .slice none 0 0]).cells.size = 2 from rfl]
    omega
  obtain ⟨G, Z, hrun, hZs, hnG, hGm⟩ := hrz 43
  clear hrz
  obtain ⟨R, hR⟩ : ∃ R, (xs.take (i * 2)).toArray ++ Z = R := ⟨_, rfl⟩
  rw [hR] at hrun hZs
  obtain ⟨W1, hW1⟩ : ∃ W1, w.drew.alloc (.cells R 51) = W1 := ⟨_, rfl⟩
  rw [hW1] at hrun
  obtain ⟨h, hh⟩ : ∃ h, w.heap.size = h := ⟨_, rfl⟩
  have hb1 : Below w.heap.size w W1 := by rw [← hW1]; exact (below_drewN (Below.refl _ w) 1).alloc (Nat.le_refl _) _
  have ho1 : W1.ownsRow w.heap.size 51 2 (.slice (some ⟨h, 0, none⟩) (n + 1) G) (n + 1) (R.toList.take ((n + 1) * 2)) := by
    refine ⟨?_, .inr ⟨h, G, R, rfl, Nat.le_of_eq hh, ?_, hnG, hGm, hZs, rfl⟩⟩
    · rw [List.length_take, Array.length_toList, hZs]; omega
    · rw [← hW1, ← hh]; exact heap_alloc_new w.drew _
  have hL : (R.toList.take ((n + 1) * 2)).take (i * 2) = xs.take (i * 2) := by
    rw [List.take_take, Nat.min_eq_left (by omega), ← hR]
    have hl : (xs.take (i * 2)).length = i * 2 := by rw [List.length_take, hrow.1]; omega
    simp only [Array.toList_append]
    rw [List.take_append_of_le_length (by rw [hl]; exact Nat.le_refl _), List.take_take, Nat.min_self]
  obtain ⟨L, hLe⟩ : ∃ L, R.toList.take ((n + 1) * 2) = L := ⟨_, rfl⟩
  rw [hLe] at ho1 hL
  have hLn := ho1.1
  have hgw : g < w.heap.size := (hrow.lt g rfl).2
  have hxl := hrow.1
  rw [hh] at hrun hb1 ho1 hgw hvb
  -- the sources
  have hs1 : ys = [] ∨ ∃ a, (some (⟨vb, 0, none⟩ : Addr)) = some a ∧ ∀ j u, ys[j]? = some u → W1.cell? (a.add j) = some u := .inr ⟨_, rfl, fun j u hu => (hb1.cell (by rw [add_block]; exact hvb)).trans (hv j u hu)⟩
  have hs2 : ∀ W2, W1.grownBy W2 (some h) → xs.drop (i * 2) = [] ∨ ∃ a, (some (⟨g, i * 2, none⟩ : Addr)) = some a ∧ ∀ j u, (xs.drop (i * 2))[j]? = some u → W2.cell? (a.add j) = some u := fun W2 hg2 => .inr ⟨_, rfl, fun j u hu => by
    rw [List.getElem?_drop] at hu
    have e1 : (⟨g, i * 2, none⟩ : Addr).add j = (⟨g, 0, none⟩ : Addr).add (i * 2 + j) := by unfold Addr.add; split <;> split <;> simp_all <;> omega
    rw [e1]
    refine cell_gr hg2 (by rw [add_block]; exact fun e => by injection e with e; have e : g = h := e; omega) ((hb1.cell (by rw [add_block]; exact hgw)).trans (hrow.cells rfl _ u hu))⟩
  have hfin : splice (splice L (i * 2) ys) ((i + 1) * 2) (xs.drop (i * 2)) = xs.take (i * 2) ++ (ys ++ xs.drop (i * 2)) := by
    have e1 : splice L (i * 2) ys = (xs.take (i * 2) ++ ys) ++ L.drop (i * 2 + ys.length) := by unfold splice; rw [hL, List.append_assoc]
    have e2 : (xs.take (i * 2) ++ ys).length = (i + 1) * 2 := by rw [List.length_append, List.length_take, hy]; omega
    rw [e1, splice_end e2 (by rw [List.length_drop, List.length_drop, hLn, hxl, hy]; omega), List.append_assoc]
  have hn1 : ys.length = Nat.min 1 (n + 1 - i) * 2 := by rw [hy, show Nat.min 1 (n + 1 - i) = 1 from Nat.min_eq_left (by omega)]
  have hn2 : (xs.drop (i * 2)).length = Nat.min (n - i) (n + 1 - (i + 1)) * 2 := by rw [List.length_drop, hxl, show Nat.min (n - i) (n + 1 - (i + 1)) = n - i from Nat.min_eq_left (by omega)]; omega
  have hf1 : i * 2 + ys.length ≤ (n + 1) * 2 := by rw [hy]; omega
  have hf2 : (i + 1) * 2 + (xs.drop (i * 2)).length ≤ (n + 1) * 2 := by rw [List.length_drop, hxl]; omega
  have h1d : ∀ u ∈ xs.drop (i * 2), u.oneCell' = true := fun u hu => h1x u (List.mem_of_mem_drop hu)
  have hGi : ¬ G = i := by omega
  have hGi2 : ¬ G = i + 1 := by omega
  have hni : ¬ n = i := by omega
  have hG63 : G ≤ 9223372036854775807 := by unfold maxLen at hGm; omega
  obtain ⟨X, hX⟩ : ∃ X, xs.drop (i * 2) = X := ⟨_, rfl⟩
  rw [hX] at hs2 hfin hn2 hf2 h1d
  have HRUN := Lib.hid hrun; have HO1 := Lib.hid ho1; have HS1 := Lib.hid hs1; have HS2 := Lib.hid hs2; have HFIN := Lib.hid hfin; have HN1 := Lib.hid hn1; have HN2 := Lib.hid hn2; have HF1 := Lib.hid hf1; have HF2 := Lib.hid hf2; have H1D := Lib.hid h1d; have H1Y := Lib.hid h1y; have HB1 := Lib.hid hb1; have HX := Lib.hid hX; have HH := Lib.hid hh; have HZ1 := Lib.hid hz1
  clear hrun ho1 hs1 hs2 hfin hn1 hn2 hf1 hf2 h1d h1y hb1 hX hh hz1 hz0 hz2 hR hZs hLe hL hLn hxl hrow hv hy h1x hW1 hnG hGm hgw hvb
  go_enter Tryz.func126, Tryz.ntmps126
  go_wp2_with (first
    | (at_builtin; refine Lib.wpList_append_run _ rfl _ _ _ _ rfl _ _ rfl rfl _ _ HRUN.out ?_)
    | (refine wpList_copy_own' (o := ⟨some 45, _, _, _, _, _⟩) rfl _ _ _ _ rfl 51 i0 h 2 h (i * 2) (n + 1) G (n + 1 - i) (G - i) 1 1 (some ⟨vb, 0, none⟩) L ys Tryz.underlying43 hi0 HZ1.out rfl rfl HO1.out HN1.out HS1.out HF1.out H1Y.out ?_; intro W2 ho2 hg2; have HO2 := Lib.hid ho2; have HG2 := Lib.hid hg2; clear ho2 hg2))
  have hO2d : (W2.drew).ownsRow h 51 2 (.slice (some ⟨h, 0, none⟩) (n + 1) G) (n + 1) (splice L (i * 2) ys) := HO2.out
  have hs2d : X = [] ∨ ∃ a, (some (⟨g, i * 2, none⟩ : Addr)) = some a ∧ ∀ j u, X[j]? = some u → W2.drew.cell? (a.add j) = some u := HS2.out W2 HG2.out
  have HO2D := Lib.hid hO2d; have HS2D := Lib.hid hs2d
  clear hO2d hs2d
  have hw1 : IntKind.i64.wrap ((i : Int) + 1) = (i : Int) + 1 := IntWalk.i64_in _ (by omega)
  have hb1 : (0 : Int) ≤ (i : Int) + 1 := by omega
  have htn : ((i : Int) + 1).toNat = i + 1 := by omega
  have hin : i ≤ n := by omega
  have hib : (i : Int) + 1 ≤ (n : Int) + 1 := by omega
  go_region_law (refine step_copy_own rfl _ _ _ _ rfl 51 i0 h 2 h ((i + 1) * 2) (n + 1) G (n + 1 - (i + 1)) (G - (i + 1)) (n - i) (n - i) (some ⟨g, i * 2, none⟩) (splice L (i * 2) ys) X Tryz.underlying43 hi0 HZ1.out (by simp [Act.eval, Act.put]) (by simp [Act.eval, Act.put]) HO2D.out HN2.out HS2D.out HF2.out H1D.out ?_; intro W3 ho3 hg3; have HO3 := Lib.hid ho3; have HG3 := Lib.hid hg3; clear ho3 hg3)
  clear hw1 hb1 htn hin hib
  go_wp2
  go_ret
  refine ⟨h, G, rfl, ?_, ?_⟩
  · rw [HH.out, HX.out, ← HFIN.out]; exact HO3.out
  · rw [HH.out]
    have hz : h ≤ W1.heap.size := by have := HB1.out.size; rw [HH.out] at this; exact this
    exact (HB1.out.grown HG2.out hz (fun k e => by injection e with e; omega)).grown (gr_of_drewN (d := 1) HG3.out) (Nat.le_trans hz HG2.out.size) (fun k e => by injection e with e; omega)

/-- Insert of one file. -/
theorem Insert (g n i base vb : Nat) (xs ys : List Value) (w : World) (hn : n ≤ 3518437208800) (hi : i ≤ n) (hrow : w.ownsRow base 51 2 (.slice (some ⟨g, 0, none⟩) n n) n xs) (hv : ∀ j u, ys[j]? = some u → w.cell? ((⟨vb, 0, none⟩ : Addr).add j) = some u) (hy : ys.length = 2) (h1x : ∀ u ∈ xs, u.oneCell' = true) (h1y : ∀ u ∈ ys, u.oneCell' = true) (hvb : vb < w.heap.size) :
    Calls Tryz.prog 126 #[.slice (some ⟨g, 0, none⟩) n n, .int .i64 (i : Int), .slice (some ⟨vb, 0, none⟩) 1 1] w (InsEnd w n i xs ys) := by
  by_cases e : i = n
  · subst e
    exact Insert_end g i base 0 vb xs ys w hn hrow hv hy
  · exact Insert_mid g n i base vb xs ys w hn (by omega) hrow hv hy h1x h1y hvb

end Tr
end Go.Proofs.YtfnhjflocfmcoaaGreat
