/-
  Words and contracts, joined: SwLeaf SwPass SwLaw.
-/
import Derived.Test.YtbiiabfhngdeiaaGH
import Derived.Test.YtbiiabfhngdeiaaGP
import Derived.Test.YtbiiabfhngdeiaaGQ
import Derived.BigQuiet
set_option maxRecDepth 100000
namespace Go.Proofs.Ytbiiabfhngdeiaa
open Go.RowKit
set_option linter.unusedVariables false
namespace Sw
open Tx Df Hk

theorem own (A : Option Addr) (c n B : Nat) (ls : List (List UInt8)) (w : World) (hn : ls.length = n) (hln : n ≤ 1000000) (hR : RdS w B A ls) :
    Calls Try.prog 98 #[.slice A n c] w (OwnEnd w n (ls.map strV)) := by
  obtain ⟨j0, hj, hy0, hy1, hy2⟩ := info_parts info_str
  have HN := Lib.hid hn; clear hn
  go_enter Try.func98, Try.ntmps98
  go_wp2_with (at_builtin; refine wpList_nil' rfl (.const (.slice none 0 0)) (.tmp 3) 47 rfl 9 j0 (.string ⟨#[]⟩) 16 Try.underlying47 hj hy0 hy1 hy2 rfl rfl B A n c (ls.map strV) rfl (by rw [List.length_map]; exact HN.out) hR (strs_one _) (by unfold maxLen; omega) (by omega) ?_; intro A' c' w' hA hg)
  go_ret
  exact ⟨A', c', rfl, hA, hg⟩

/-- How a way to pass ends. -/
def WayEnd (w : World) (x y : Int) (b : Bool) (e : Ending) (w' : World) : Prop := e = .returned (.tuple #[.int .i64 x, .int .i64 y, .bool b]) ∧ ∃ d, w' = w.drewN d

set_option maxHeartbeats 2000000 in
theorem way1 (a b : Nat) (A : Option Addr) (n c : Nat) (A' : Option Addr) (n' c' : Nat) (D : Option Addr) (m k : Nat) (D' : Option Addr) (m' k' : Nat) (p q : Int) (w : World)
    (hp0 : 0 ≤ p) (hp1 : p ≤ 1048576) (hq0 : 0 ≤ q) (hq1 : q ≤ 1048576) (hn : n ≤ 1000) (hn' : n' ≤ 1000) (hm : m ≤ 1000) (hm' : m' ≤ 1000)
    (hp : Blk w a 49 #[.int .i64 p, .slice A n c, .slice A' n' c']) (hq : Blk w b 49 #[.int .i64 q, .slice D m k, .slice D' m' k']) :
    Calls Try.prog 96 #[.pointer (some ⟨b, 0, none⟩), .pointer (some ⟨a, 0, none⟩)] w (WayEnd w (q - n' + n) p (decide (p + n' < q))) := by
  have x0 : w.cell? ⟨a, 0, none⟩ = some (.int .i64 p) := hp.cell 0 rfl
  have x1 : w.cell? ⟨a, 1, none⟩ = some (.slice A n c) := hp.cell 1 rfl
  have x2 : w.cell? ⟨a, 2, none⟩ = some (.slice A' n' c') := hp.cell 2 rfl
  have y0 : w.cell? ⟨b, 0, none⟩ = some (.int .i64 q) := hq.cell 0 rfl
  clear hp hq
  go_enter Try.func96, Try.ntmps96
  go_wp2_with fail
  go_quiet (fail)
  go_wp2
  go_ret3
  exact ⟨rfl, _, rfl⟩

set_option maxHeartbeats 2000000 in
theorem way2 (a b : Nat) (A : Option Addr) (n c : Nat) (A' : Option Addr) (n' c' : Nat) (D : Option Addr) (m k : Nat) (D' : Option Addr) (m' k' : Nat) (p q : Int) (w : World)
    (hp0 : 0 ≤ p) (hp1 : p ≤ 1048576) (hq0 : 0 ≤ q) (hq1 : q ≤ 1048576) (hn : n ≤ 1000) (hn' : n' ≤ 1000) (hm : m ≤ 1000) (hm' : m' ≤ 1000)
    (hp : Blk w a 49 #[.int .i64 p, .slice A n c, .slice A' n' c']) (hq : Blk w b 49 #[.int .i64 q, .slice D m k, .slice D' m' k']) :
    Calls Try.prog 97 #[.pointer (some ⟨b, 0, none⟩), .pointer (some ⟨a, 0, none⟩)] w (WayEnd w q (p - m + m') (decide (q + m < p))) := by
  have x0 : w.cell? ⟨a, 0, none⟩ = some (.int .i64 p) := hp.cell 0 rfl
  have y0 : w.cell? ⟨b, 0, none⟩ = some (.int .i64 q) := hq.cell 0 rfl
  have y1 : w.cell? ⟨b, 1, none⟩ = some (.slice D m k) := hq.cell 1 rfl
  have y2 : w.cell? ⟨b, 2, none⟩ = some (.slice D' m' k') := hq.cell 2 rfl
  clear hp hq
  go_enter Try.func97, Try.ntmps97
  go_wp2_with fail
  go_quiet (fail)
  go_wp2
  go_ret3
  exact ⟨rfl, _, rfl⟩

/-- A way to pass, as a value: it holds where the two lie. -/
abbrev wayV (f : Nat) (a b : Nat) : Value := .func (.func f) #[] #[.pointer (some ⟨b, 0, none⟩), .pointer (some ⟨a, 0, none⟩)]
/-- How ways ends: both ways in a list, each holding the same two boxes. -/
def WaysEnd (w : World) (cp cq : Array Value) (e : Ending) (w' : World) : Prop :=
  e = .returned (.slice (some ⟨w.heap.size + 2, 0, none⟩) 2 2) ∧ Blk w' w.heap.size 49 cp ∧ Blk w' (w.heap.size + 1) 49 cq ∧
    Blk w' (w.heap.size + 2) 112 #[wayV 96 w.heap.size (w.heap.size + 1), wayV 97 w.heap.size (w.heap.size + 1)] ∧ Below w.heap.size w w'

theorem ways (A : Option Addr) (n c : Nat) (A' : Option Addr) (n' c' : Nat) (D : Option Addr) (m k : Nat) (D' : Option Addr) (m' k' : Nat) (p q : Int) (w : World) :
    Calls Try.prog 81 #[hkV p A n c A' n' c', hkV q D m k D' m' k'] w (WaysEnd w #[.int .i64 p, .slice A n c, .slice A' n' c'] #[.int .i64 q, .slice D m k, .slice D' m' k']) := by
  go_enter Try.func81, Try.ntmps81
  go_wp2
  go_ret
  have b0 := ((Blk.new w 49 #[.int .i64 p, .slice A n c, .slice A' n' c']).alloc (.cells #[.int .i64 q, .slice D m k, .slice D' m' k'] 49)).alloc (.cells #[wayV 96 w.heap.size (w.heap.size + 1), wayV 97 w.heap.size (w.heap.size + 1)] 112)
  have b1 := (Blk.new (w.alloc (.cells #[.int .i64 p, .slice A n c, .slice A' n' c'] 49)) 49 #[.int .i64 q, .slice D m k, .slice D' m' k']).alloc (.cells #[wayV 96 w.heap.size (w.heap.size + 1), wayV 97 w.heap.size (w.heap.size + 1)] 112)
  have b2 := Blk.new ((w.alloc (.cells #[.int .i64 p, .slice A n c, .slice A' n' c'] 49)).alloc (.cells #[.int .i64 q, .slice D m k, .slice D' m' k'] 49)) 112 #[wayV 96 w.heap.size (w.heap.size + 1), wayV 97 w.heap.size (w.heap.size + 1)]
  simp only [World.size_alloc] at b1 b2
  exact ⟨rfl, b0, b1, b2, (((Below.refl _ _).alloc (Nat.le_refl _) _).alloc (by simp) _).alloc (by simp; omega) _⟩

/-- How placed ends. -/
def PlacedEnd (w : World) (n n' : Nat) (h : HU) (e : Ending) (w' : World) : Prop :=
  ∃ D k D' k', e = .returned (hkV h.pos D n k D' n' k') ∧ HV w' w'.heap.size D n k D' n' k' h ∧ (Hi w.heap.size D ∧ Hi w.heap.size D') ∧ Below w.heap.size w w'

set_option maxRecDepth 100000 in
set_option maxHeartbeats 2000000 in
theorem placed (A : Option Addr) (n c : Nat) (A' : Option Addr) (n' c' B : Nat) (h : HU) (i : Int) (w : World) (hB : B ≤ w.heap.size) (hn : n ≤ 1000) (hn' : n' ≤ 1000) (hv : HV w B A n c A' n' c' h) (hi : I64 i) :
    Calls Try.prog 82 #[hkV h.pos A n c A' n' c', .int .i64 i] w (PlacedEnd w n n' (at_ h i)) := by
  have HV0 := Lib.hid hv
  have HL := Lib.hid hv.l; have HL' := Lib.hid hv.l'
  have R := Lib.hid hv.r; have R' := Lib.hid hv.r'
  clear hv
  obtain ⟨p, hp⟩ : ∃ p, h.pos = p := ⟨_, rfl⟩
  rw [hp]
  have HI := Lib.hid hi; clear hi hp
  go_enter Try.func82, Try.ntmps82
  go_wp2_with fail
  have b1 := (Blk.new w 49 #[.int .i64 p, .slice A n c, .slice A' n' c']).alloc (.cells #[.int .i64 0, .slice none 0 0, .slice none 0 0] 49)
  have b2 := Blk.new (w.alloc (.cells #[.int .i64 p, .slice A n c, .slice A' n' c'] 49)) 49 #[.int .i64 0, .slice none 0 0, .slice none 0 0]
  have hw : Below w.heap.size w ((w.alloc (.cells #[.int .i64 p, .slice A n c, .slice A' n' c'] 49)).alloc (.cells #[.int .i64 0, .slice none 0 0, .slice none 0 0] 49)) := ((Below.refl _ _).alloc (Nat.le_refl _) _).alloc (by simp) _
  simp only [World.size_alloc] at b2
  generalize hW : (w.alloc (.cells #[.int .i64 p, .slice A n c, .slice A' n' c'] 49)).alloc (.cells #[.int .i64 0, .slice none 0 0, .slice none 0 0] 49) = W at *
  clear hW
  have R1 := Lib.hid (Rd.below R.out (hw.mono hB))
  have R1' := Lib.hid (Rd.below R'.out (hw.mono hB))
  have B1 := Lib.hid b1; have B2 := Lib.hid b2; have HW := Lib.hid hw; clear b1 b2 hw
  have HBW : Hid (B ≤ W.heap.size) := Lib.hid (Nat.le_trans hB HW.out.size)
  obtain ⟨g, hgs⟩ : ∃ g, w.heap.size = g := ⟨_, rfl⟩
  rw [hgs] at HW B1 B2 hB ⊢
  have HGS := Lib.hid hgs; clear hgs
  have x0 : W.cell? ⟨g, 0, none⟩ = some (.int .i64 p) := B1.out.cell 0 rfl
  have x1 : W.cell? ⟨g, 1, none⟩ = some (.slice A n c) := B1.out.cell 1 rfl
  have x2 : W.cell? ⟨g, 2, none⟩ = some (.slice A' n' c') := B1.out.cell 2 rfl
  go_region_held3 (fun w' => w'.cell? ⟨g, 1, none⟩ = some (.slice A n c) ∧ w'.cell? ⟨g, 2, none⟩ = some (.slice A' n' c'))
    (first | go_keep | (exact ⟨y1, y2⟩) | (exact ⟨z1, z2⟩))
    (first
      | (go_at_call 98; refine (own A c n B h.old W.drew HL.out (by omega) (Rd.drewN R1.out 1)).mono ?_; rintro e w1 ⟨D, k, rfl, hr1, hg1⟩;
          have y1 := cell_gr hg1 (nn _) x1; have y2 := cell_gr hg1 (nn _) x2; have HR1 := Lib.hid hr1; have HG1 := Lib.hid hg1; clear hr1 hg1)
      | (go_at_call 98; refine (own A' c' n' B h.new w1 HL'.out (by omega) (Rd.below (Rd.drewN R1'.out 1) ((below_gr HG1.out).mono HBW.out))).mono ?_; rintro e w2 ⟨D', k', rfl, hr2, hg2⟩;
          have z1 := cell_gr hg2 (nn _) y1; have z2 := cell_gr hg2 (nn _) y2;
          have b3 := ((B2.out.drewN 1).gr HG1.out (nn _)).gr hg2 (nn _); have q0 : w2.cell? ⟨g + 1, 0, none⟩ = some (.int .i64 0) := b3.cell 0 rfl; have q1 : w2.cell? ⟨g + 1, 1, none⟩ = some (.slice none 0 0) := b3.cell 1 rfl; have q2 : w2.cell? ⟨g + 1, 2, none⟩ = some (.slice none 0 0) := b3.cell 2 rfl; have f0 := b3.frozen 0; have f1 := b3.frozen 1; have f2 := b3.frozen 2;
          have B3 := Lib.hid b3; clear b3; have HR2 := Lib.hid hr2; have HG2 := Lib.hid hg2; clear hr2 hg2))
  go_wp2_with fail
  have b4 := ((B3.out.set 0 (.int .i64 i)).set 1 (.slice D n k)).set 2 (.slice D' n' k')
  have hg1 : g + 1 < W.heap.size := B2.out.lt
  have hs1 : W.heap.size ≤ w1.heap.size := HG1.out.size
  have o1 := own_set (own_set (own_set (own_gr HR1.out HG2.out) hg1 0 (.int .i64 i)) hg1 1 (.slice D n k)) hg1 2 (.slice D' n' k')
  have o2 := own_set (own_set (own_set HR2.out (Nat.lt_of_lt_of_le hg1 hs1) 0 (.int .i64 i)) (Nat.lt_of_lt_of_le hg1 hs1) 1 (.slice D n k)) (Nat.lt_of_lt_of_le hg1 hs1) 2 (.slice D' n' k')
  have hB3 : Below g w (((w2.setCell ⟨g + 1, 0, none⟩ (.int .i64 i)).setCell ⟨g + 1, 1, none⟩ (.slice D n k)).setCell ⟨g + 1, 2, none⟩ (.slice D' n' k')) := (((HW.out.trans (((below_drewN (Below.refl W.heap.size W) 1).trans (below_gr HG1.out)).mono (Nat.le_trans (by omega) hg1)) |>.trans ((below_gr HG2.out).mono (by omega))).setCell (p := ⟨g + 1, 0, none⟩) (by show g ≤ g + 1; omega) _).setCell (p := ⟨g + 1, 1, none⟩) (by show g ≤ g + 1; omega) _).setCell (p := ⟨g + 1, 2, none⟩) (by show g ≤ g + 1; omega) _
  generalize ((w2.setCell ⟨g + 1, 0, none⟩ (.int .i64 i)).setCell ⟨g + 1, 1, none⟩ (.slice D n k)).setCell ⟨g + 1, 2, none⟩ (.slice D' n' k') = W3 at *
  have q0 : W3.cell? ⟨g + 1, 0, none⟩ = some (.int .i64 i) := b4.cell 0 rfl
  have q1 : W3.cell? ⟨g + 1, 1, none⟩ = some (.slice D n k) := b4.cell 1 rfl
  have q2 : W3.cell? ⟨g + 1, 2, none⟩ = some (.slice D' n' k') := b4.cell 2 rfl
  obtain ⟨_, _, e1, hk1, r1⟩ := rd_of_own o1
  obtain ⟨_, _, e2, hk2, r2⟩ := rd_of_own o2
  cases e1; cases e2
  refine bodyPost_ret (v := hkV i D n k D' n' k') (by simp [results, Try.results82, go_sem, q0, q1, q2]) rfl ?_
  refine ⟨D, k, D', k', rfl, ⟨HL.out, HL'.out, hk1, hk2, HV0.out.m, HV0.out.m', r1, r2, HI.out⟩, ⟨(hi_own o1).mono (show w.heap.size ≤ W.drew.heap.size from HW.out.size), (hi_own o2).mono (Nat.le_trans HW.out.size hs1)⟩, by rw [HGS.out]; exact hB3⟩

end Sw
end Go.Proofs.Ytbiiabfhngdeiaa

namespace Go.Proofs.Ytbiiabfhngdeiaa
open Go.RowKit
set_option linter.unusedVariables false
namespace Sw
open Tx Df Hk

/-- What Pass tells: nothing if one may not be, or if one would stand above the limit. -/
def passH (p q : HU) : Option (HU × HU) := if mayH p && mayH q then (pass p q).bind (fun z => if z.1.pos ≤ 1048576 ∧ z.2.pos ≤ 1048576 then some z else none) else none
def zeroH : HU := ⟨0, [], []⟩
def outH (o : Option (HU × HU)) : HU × HU := o.getD (zeroH, zeroH)

/-- How Pass ends. -/
def PassEnd (w : World) (o : Option (HU × HU)) (e : Ending) (w' : World) : Prop :=
  ∃ A n c A' n' c' D m k D' m' k', e = .returned (.tuple #[hkV (outH o).1.pos A n c A' n' c', hkV (outH o).2.pos D m k D' m' k', .bool o.isSome]) ∧
    HV w' w'.heap.size A n c A' n' c' (outH o).1 ∧ HV w' w'.heap.size D m k D' m' k' (outH o).2 ∧ Below w.heap.size w w'

/-- The same, of lines in memory of their own. -/
def PassEndH (w : World) (o : Option (HU × HU)) (e : Ending) (w' : World) : Prop :=
  ∃ A n c A' n' c' D m k D' m' k', e = .returned (.tuple #[hkV (outH o).1.pos A n c A' n' c', hkV (outH o).2.pos D m k D' m' k', .bool o.isSome]) ∧
    HV w' w'.heap.size A n c A' n' c' (outH o).1 ∧ HV w' w'.heap.size D m k D' m' k' (outH o).2 ∧ (Hi w.heap.size A ∧ Hi w.heap.size A' ∧ Hi w.heap.size D ∧ Hi w.heap.size D') ∧ Below w.heap.size w w'
theorem PassEndH.end_ {w w' : World} {o : Option (HU × HU)} {e : Ending} (h : PassEndH w o e w') : PassEnd w o e w' := by
  obtain ⟨A, n, c, A', n', c', D, m, k, D', m', k', h1, h2, h3, _, h4⟩ := h
  exact ⟨A, n, c, A', n', c', D, m, k, D', m', k', h1, h2, h3, h4⟩
theorem passH_may {p q : HU} {z : HU × HU} (h : passH p q = some z) : mayH p = true ∧ mayH q = true ∧ pass p q = some z ∧ z.1.pos ≤ 1048576 ∧ z.2.pos ≤ 1048576 := by
  unfold passH at h
  split at h
  · rename_i hm
    rw [Bool.and_eq_true] at hm
    cases hp : pass p q with
    | none => rw [hp] at h; cases h
    | some y =>
      rw [hp, Option.bind_some] at h
      split at h
      · rename_i hl
        cases h
        exact ⟨hm.1, hm.2, rfl, hl.1, hl.2⟩
      · cases h
  · cases h
theorem passH_some {p q : HU} {z : HU × HU} (h1 : mayH p = true) (h2 : mayH q = true) (h : pass p q = some z) (h3 : z.1.pos ≤ 1048576) (h4 : z.2.pos ≤ 1048576) : passH p q = some z := by
  unfold passH
  rw [h1, h2, h, Option.bind_some]
  simp [h3, h4]
theorem passH_no1 {p q : HU} (h : mayH p = false) : passH p q = none := by unfold passH; rw [h]; rfl
theorem passH_no2 {p q : HU} (h : mayH q = false) : passH p q = none := by unfold passH; rw [h, Bool.and_false]; rfl
theorem mayH_pos {h : HU} (hm : mayH h = true) : 0 ≤ h.pos ∧ h.pos ≤ 1048576 := by
  unfold mayH at hm
  simp only [Bool.and_eq_true, decide_eq_true_eq] at hm
  exact hm.1

/-- The first way is shut; the second one is. -/
def Shut1 (p q : HU) (n n' : Nat) : Prop := ¬ (p.pos + n' < q.pos ∧ q.pos - n' + n ≤ 1048576 ∧ p.pos ≤ 1048576)
def Shut2 (p q : HU) (m m' : Nat) : Prop := ¬ (q.pos + m < p.pos ∧ q.pos ≤ 1048576 ∧ p.pos - m + m' ≤ 1048576)
theorem passH_shut {p q : HU} {n n' m m' : Nat} (hn : p.old.length = n) (hn' : p.new.length = n') (hm : q.old.length = m) (hm' : q.new.length = m') (h1 : Shut1 p q n n') (h2 : Shut2 p q m m') : passH p q = none := by
  subst hn hn' hm hm'
  unfold Shut1 at h1
  unfold Shut2 at h2
  cases h : passH p q with
  | none => rfl
  | some z =>
    obtain ⟨_, _, h3, h4, h5⟩ := passH_may h
    rcases pass_cases (x := z.1) (y := z.2) h3 with ⟨a1, a2, a3⟩ | ⟨a1, a2, a3⟩
    · rw [a2] at h4; rw [a3] at h5; exact absurd ⟨a1, h4, h5⟩ h1
    · rw [a2] at h4; rw [a3] at h5; exact absurd ⟨a1, h4, h5⟩ h2
theorem passH_open1 {p q : HU} {n n' : Nat} (hn : p.old.length = n) (hn' : p.new.length = n') (h1 : mayH p = true) (h2 : mayH q = true) (h : p.pos + n' < q.pos) (h3 : q.pos - n' + n ≤ 1048576) (h4 : p.pos ≤ 1048576) : passH p q = some (at_ q (q.pos - n' + n), p) := by
  subst hn hn'
  exact passH_some h1 h2 (pass_ahead h) h3 h4
theorem passH_open2 {p q : HU} {m m' : Nat} (hm : q.old.length = m) (hm' : q.new.length = m') (h1 : mayH p = true) (h2 : mayH q = true) (h : q.pos + m < p.pos) (h3 : q.pos ≤ 1048576) (h4 : p.pos - m + m' ≤ 1048576) : passH p q = some (q, at_ p (p.pos - m + m')) := by
  subst hm hm'
  exact passH_some h1 h2 (pass_behind h) h3 h4

theorem zero_HV (w : World) (B : Nat) : HV w B none 0 0 none 0 0 zeroH := ⟨rfl, rfl, Nat.le_refl _, Nat.le_refl _, Nat.zero_le _, Nat.zero_le _, .inl rfl, .inl rfl, ⟨by decide, by decide⟩⟩
theorem passEnd_none {w w' : World} {o : Option (HU × HU)} (ho : o = none) (hb : Below w.heap.size w w') : PassEnd w o (.returned (.tuple #[hkV 0 none 0 0 none 0 0, hkV 0 none 0 0 none 0 0, .bool false])) w' := by
  subst ho
  exact ⟨none, 0, 0, none, 0, 0, none, 0, 0, none, 0, 0, rfl, zero_HV _ _, zero_HV _ _, hb⟩

theorem passEndH_none {w w' : World} {o : Option (HU × HU)} (ho : o = none) (hb : Below w.heap.size w w') : PassEndH w o (.returned (.tuple #[hkV 0 none 0 0 none 0 0, hkV 0 none 0 0 none 0 0, .bool false])) w' := by
  subst ho
  exact ⟨none, 0, 0, none, 0, 0, none, 0, 0, none, 0, 0, rfl, zero_HV _ _, zero_HV _ _, ⟨hi_none _, hi_none _, hi_none _, hi_none _⟩, hb⟩

theorem passEnd_some {w w' : World} {x y : HU} {e : Ending} (h : PassEnd w (some (x, y)) e w') :
    ∃ A c A' c' D k D' k', e = .returned (.tuple #[hkV x.pos A x.old.length c A' x.new.length c', hkV y.pos D y.old.length k D' y.new.length k', .bool true]) ∧
      HV w' w'.heap.size A x.old.length c A' x.new.length c' x ∧ HV w' w'.heap.size D y.old.length k D' y.new.length k' y ∧ Below w.heap.size w w' := by
  obtain ⟨A, n, c, A', n', c', D, m, k, D', m', k', rfl, v1, v2, hb⟩ := h
  obtain rfl : x.old.length = n := v1.l
  obtain rfl : x.new.length = n' := v1.l'
  obtain rfl : y.old.length = m := v2.l
  obtain rfl : y.new.length = m' := v2.l'
  exact ⟨A, c, A', c', D, k, D', k', rfl, v1, v2, hb⟩

/-- Two structs stored, one behind the other. -/
theorem two_set {W : World} {b b' : Nat} {t : TypeId} {x0 x1 x2 y0 y1 y2 : Value} (h : Blk W b t #[x0, x1, x2]) (h' : Blk W b' t #[y0, y1, y2]) (hne : b ≠ b') (v0 v1 v2 u0 u1 u2 : Value) :
    Blk ((((((W.setCell ⟨b, 0, none⟩ v0).setCell ⟨b, 1, none⟩ v1).setCell ⟨b, 2, none⟩ v2).setCell ⟨b', 0, none⟩ u0).setCell ⟨b', 1, none⟩ u1).setCell ⟨b', 2, none⟩ u2) b t #[v0, v1, v2] ∧
    Blk ((((((W.setCell ⟨b, 0, none⟩ v0).setCell ⟨b, 1, none⟩ v1).setCell ⟨b, 2, none⟩ v2).setCell ⟨b', 0, none⟩ u0).setCell ⟨b', 1, none⟩ u1).setCell ⟨b', 2, none⟩ u2) b' t #[u0, u1, u2] :=
  ⟨(((((h.set 0 v0).set 1 v1).set 2 v2).set_ne hne 0 u0).set_ne hne 1 u1).set_ne hne 2 u2,
   (((((h'.set_ne hne.symm 0 v0).set_ne hne.symm 1 v1).set_ne hne.symm 2 v2).set 0 u0).set 1 u1).set 2 u2⟩
theorem below_set6 {B : Nat} {w W : World} {b b' : Nat} (h : Below B w W) (hb : B ≤ b) (hb' : B ≤ b') (v0 v1 v2 u0 u1 u2 : Value) :
    Below B w ((((((W.setCell ⟨b, 0, none⟩ v0).setCell ⟨b, 1, none⟩ v1).setCell ⟨b, 2, none⟩ v2).setCell ⟨b', 0, none⟩ u0).setCell ⟨b', 1, none⟩ u1).setCell ⟨b', 2, none⟩ u2) :=
  (((((h.setCell (p := ⟨b, 0, none⟩) hb v0).setCell (p := ⟨b, 1, none⟩) hb v1).setCell (p := ⟨b, 2, none⟩) hb v2).setCell (p := ⟨b', 0, none⟩) hb' u0).setCell (p := ⟨b', 1, none⟩) hb' u1).setCell (p := ⟨b', 2, none⟩) hb' u2

/-- What reads as lines reads so still where a hunk's variable is set. -/
theorem rdS_hset {W : World} {B b : Nat} {t : TypeId} {x0 : Int} {A1 A2 : Option Addr} {n1 c1 n2 c2 : Nat} {A : Option Addr} {ls : List (List UInt8)} (hb : Blk W b t #[.int .i64 x0, .slice A1 n1 c1, .slice A2 n2 c2]) (j : Nat) (v : Value) (hR : RdS W B A ls) : RdS (W.setCell ⟨b, j, none⟩ v) B A ls := by
  rcases hR with h | ⟨a, e, hlt, hc⟩
  · exact .inl h
  · refine .inr ⟨a, e, hlt, fun i u hu => ?_⟩
    have hcell := hc i u hu
    refine cell_set hcell (fun eq => ?_) j v
    rw [List.getElem?_map, Option.map_eq_some_iff] at hu
    obtain ⟨l, _, rfl⟩ := hu
    unfold World.cell? at hcell
    rw [eq, show W.heap[b]? = _ from hb] at hcell
    simp only at hcell
    split at hcell
    · cases hcell
    · match hi : (a.add i).off with
      | 0 => rw [hi] at hcell; simp [strV] at hcell
      | 1 => rw [hi] at hcell; simp [strV] at hcell
      | 2 => rw [hi] at hcell; simp [strV] at hcell
      | k + 3 => rw [hi] at hcell; simp at hcell
theorem hv_set3 {W : World} {B b : Nat} {t : TypeId} {x0 : Int} {A1 A2 : Option Addr} {n1 c1 n2 c2 : Nat} {A A' : Option Addr} {n c n' c' : Nat} {h : HU} (hb : Blk W b t #[.int .i64 x0, .slice A1 n1 c1, .slice A2 n2 c2]) (i : Int) (D : Option Addr) (m k : Nat) (D' : Option Addr) (m' k' : Nat)
    (hv : HV W B A n c A' n' c' h) : HV (((W.setCell ⟨b, 0, none⟩ (.int .i64 i)).setCell ⟨b, 1, none⟩ (.slice D m k)).setCell ⟨b, 2, none⟩ (.slice D' m' k')) B A n c A' n' c' h :=
  have b1 : Blk (W.setCell ⟨b, 0, none⟩ (.int .i64 i)) b t #[.int .i64 i, .slice A1 n1 c1, .slice A2 n2 c2] := hb.set 0 _
  have b2 : Blk ((W.setCell ⟨b, 0, none⟩ (.int .i64 i)).setCell ⟨b, 1, none⟩ (.slice D m k)) b t #[.int .i64 i, .slice D m k, .slice A2 n2 c2] := b1.set 1 _
  ⟨hv.l, hv.l', hv.k, hv.k', hv.m, hv.m', rdS_hset b2 _ _ (rdS_hset b1 _ _ (rdS_hset hb _ _ hv.r)), rdS_hset b2 _ _ (rdS_hset b1 _ _ (rdS_hset hb _ _ hv.r')), hv.p⟩
theorem hv_set6 {W : World} {B b b' : Nat} {t : TypeId} {x0 y0 : Int} {A1 A2 E1 E2 : Option Addr} {n1 c1 n2 c2 m1 k1 m2 k2 : Nat} {A A' : Option Addr} {n c n' c' : Nat} {h : HU} (hb : Blk W b t #[.int .i64 x0, .slice A1 n1 c1, .slice A2 n2 c2]) (hb' : Blk W b' t #[.int .i64 y0, .slice E1 m1 k1, .slice E2 m2 k2]) (hne : b ≠ b')
    (i : Int) (D : Option Addr) (m k : Nat) (D' : Option Addr) (m' k' : Nat) (j : Int) (G : Option Addr) (o l : Nat) (G' : Option Addr) (o' l' : Nat) (hv : HV W B A n c A' n' c' h) :
    HV ((((((W.setCell ⟨b, 0, none⟩ (.int .i64 i)).setCell ⟨b, 1, none⟩ (.slice D m k)).setCell ⟨b, 2, none⟩ (.slice D' m' k')).setCell ⟨b', 0, none⟩ (.int .i64 j)).setCell ⟨b', 1, none⟩ (.slice G o l)).setCell ⟨b', 2, none⟩ (.slice G' o' l')) B A n c A' n' c' h :=
  hv_set3 (((hb'.set_ne hne.symm 0 _).set_ne hne.symm 1 _).set_ne hne.symm 2 _) j G o l G' o' l' (hv_set3 hb i D m k D' m' k' hv)

set_option maxHeartbeats 4000000 in
theorem PassHi (A : Option Addr) (n c : Nat) (A' : Option Addr) (n' c' : Nat) (D : Option Addr) (m k : Nat) (D' : Option Addr) (m' k' B : Nat) (p q : HU) (w : World) (hB : B ≤ w.heap.size) (hn : n ≤ 1000) (hn' : n' ≤ 1000) (hm : m ≤ 1000) (hm' : m' ≤ 1000)
    (hv : HV w B A n c A' n' c' p) (gv : HV w B D m k D' m' k' q) :
    Calls Try.prog 65 #[hkV p.pos A n c A' n' c', hkV q.pos D m k D' m' k'] w (PassEndH w (passH p q)) := by
  have HV0 := Lib.hid hv; have GV0 := Lib.hid gv
  go_enter Try.func65, Try.ntmps65
  go_wp2_with fail
  have hw0 : Below w.heap.size w ((((w.alloc (.cells #[.int .i64 p.pos, .slice A n c, .slice A' n' c'] 49)).alloc (.cells #[.int .i64 q.pos, .slice D m k, .slice D' m' k'] 49)).alloc (.cells #[.int .i64 0, .slice none 0 0, .slice none 0 0] 49)).alloc (.cells #[.int .i64 0, .slice none 0 0, .slice none 0 0] 49)) :=
    ((((Below.refl _ _).alloc (Nat.le_refl _) _).alloc (by simp) _).alloc (by simp; omega) _).alloc (by simp; omega) _
  have b0 := (((Blk.new w 49 #[.int .i64 p.pos, .slice A n c, .slice A' n' c']).alloc (.cells #[.int .i64 q.pos, .slice D m k, .slice D' m' k'] 49)).alloc (.cells #[.int .i64 0, .slice none 0 0, .slice none 0 0] 49)).alloc (.cells #[.int .i64 0, .slice none 0 0, .slice none 0 0] 49)
  have b1 := ((Blk.new (w.alloc (.cells #[.int .i64 p.pos, .slice A n c, .slice A' n' c'] 49)) 49 #[.int .i64 q.pos, .slice D m k, .slice D' m' k']).alloc (.cells #[.int .i64 0, .slice none 0 0, .slice none 0 0] 49)).alloc (.cells #[.int .i64 0, .slice none 0 0, .slice none 0 0] 49)
  have b2 := (Blk.new ((w.alloc (.cells #[.int .i64 p.pos, .slice A n c, .slice A' n' c'] 49)).alloc (.cells #[.int .i64 q.pos, .slice D m k, .slice D' m' k'] 49)) 49 #[.int .i64 0, .slice none 0 0, .slice none 0 0]).alloc (.cells #[.int .i64 0, .slice none 0 0, .slice none 0 0] 49)
  have b3 := Blk.new (((w.alloc (.cells #[.int .i64 p.pos, .slice A n c, .slice A' n' c'] 49)).alloc (.cells #[.int .i64 q.pos, .slice D m k, .slice D' m' k'] 49)).alloc (.cells #[.int .i64 0, .slice none 0 0, .slice none 0 0] 49)) 49 #[.int .i64 0, .slice none 0 0, .slice none 0 0]
  simp only [World.size_alloc] at b1 b2 b3
  generalize ((((w.alloc (.cells #[.int .i64 p.pos, .slice A n c, .slice A' n' c'] 49)).alloc (.cells #[.int .i64 q.pos, .slice D m k, .slice D' m' k'] 49)).alloc (.cells #[.int .i64 0, .slice none 0 0, .slice none 0 0] 49)).alloc (.cells #[.int .i64 0, .slice none 0 0, .slice none 0 0] 49)) = w0 at *
  clear hv gv
  obtain ⟨g, hgs⟩ : ∃ g, w.heap.size = g := ⟨_, rfl⟩
  rw [hgs] at hw0 b0 b1 b2 b3 ⊢
  rw [show g + 1 + 1 = g + 2 from rfl] at b2 b3 ⊢
  rw [show g + 2 + 1 = g + 3 from rfl] at b3 ⊢
  have HGS := Lib.hid hgs; clear hgs
  refine (May A n c A' n' c' B p w0 (Nat.le_trans hB hw0.size) (HV0.out.below (hw0.mono (by rw [← HGS.out]; exact hB)))).mono ?_
  rintro e w1 ⟨rfl, h1⟩
  have b0 := b0.below h1 b0.lt; have b1 := b1.below h1 b1.lt; have b2 := b2.below h1 b2.lt; have b3 := b3.below h1 b3.lt
  have hw1 := hw0.trans (h1.mono (by rw [← HGS.out]; exact hw0.size))
  clear h1 hw0
  cases hmp : mayH p with
  | false =>
    have HN := Lib.hid (passH_no1 (q := q) hmp)
    clear hmp
    have q20 : w1.cell? ⟨g + 2, 0, none⟩ = some (.int .i64 0) := b2.cell 0 rfl; have q21 : w1.cell? ⟨g + 2, 1, none⟩ = some (.slice none 0 0) := b2.cell 1 rfl; have q22 : w1.cell? ⟨g + 2, 2, none⟩ = some (.slice none 0 0) := b2.cell 2 rfl
    have q30 : w1.cell? ⟨g + 3, 0, none⟩ = some (.int .i64 0) := b3.cell 0 rfl; have q31 : w1.cell? ⟨g + 3, 1, none⟩ = some (.slice none 0 0) := b3.cell 1 rfl; have q32 : w1.cell? ⟨g + 3, 2, none⟩ = some (.slice none 0 0) := b3.cell 2 rfl
    have f20 := b2.frozen 0; have f21 := b2.frozen 1; have f22 := b2.frozen 2; have f30 := b3.frozen 0; have f31 := b3.frozen 1; have f32 := b3.frozen 2
    go_wp2_with fail
    obtain ⟨z2, z3⟩ := two_set b2 b3 (by omega) (.int .i64 0) (.slice none 0 0) (.slice none 0 0) (.int .i64 0) (.slice none 0 0) (.slice none 0 0)
    have hb6 := below_set6 (b := g + 2) (b' := g + 3) hw1 (by omega) (by omega) (.int .i64 0) (.slice none 0 0) (.slice none 0 0) (.int .i64 0) (.slice none 0 0) (.slice none 0 0)
    generalize (((((World.setCell w1 ⟨g + 2, 0, none⟩ (.int .i64 0)).setCell ⟨g + 2, 1, none⟩ (.slice none 0 0)).setCell ⟨g + 2, 2, none⟩ (.slice none 0 0)).setCell ⟨g + 3, 0, none⟩ (.int .i64 0)).setCell ⟨g + 3, 1, none⟩ (.slice none 0 0)).setCell ⟨g + 3, 2, none⟩ (.slice none 0 0) = W3 at *
    have q20 : W3.cell? ⟨g + 2, 0, none⟩ = some (.int .i64 0) := z2.cell 0 rfl; have q21 : W3.cell? ⟨g + 2, 1, none⟩ = some (.slice none 0 0) := z2.cell 1 rfl; have q22 : W3.cell? ⟨g + 2, 2, none⟩ = some (.slice none 0 0) := z2.cell 2 rfl
    have q30 : W3.cell? ⟨g + 3, 0, none⟩ = some (.int .i64 0) := z3.cell 0 rfl; have q31 : W3.cell? ⟨g + 3, 1, none⟩ = some (.slice none 0 0) := z3.cell 1 rfl; have q32 : W3.cell? ⟨g + 3, 2, none⟩ = some (.slice none 0 0) := z3.cell 2 rfl
    refine bodyPost_ret (v := .tuple #[hkV 0 none 0 0 none 0 0, hkV 0 none 0 0 none 0 0, .bool false]) (by simp [results, Try.results65, go_sem, q20, q21, q22, q30, q31, q32]) rfl ?_
    exact passEndH_none HN.out (by rw [HGS.out]; exact hb6)
  | true =>
  have HMP := Lib.hid hmp; clear hmp
  have y0 : w1.cell? ⟨g + 1, 0, none⟩ = some (.int .i64 q.pos) := b1.cell 0 rfl; have y1 : w1.cell? ⟨g + 1, 1, none⟩ = some (.slice D m k) := b1.cell 1 rfl; have y2 : w1.cell? ⟨g + 1, 2, none⟩ = some (.slice D' m' k') := b1.cell 2 rfl
  go_wp2_with fail
  refine (May D m k D' m' k' B q w1 (Nat.le_trans hB hw1.size) (GV0.out.below (hw1.mono (by rw [← HGS.out]; exact hB)))).mono ?_
  rintro e w2 ⟨rfl, h1⟩
  clear y0 y1 y2
  have b0 := b0.below h1 b0.lt; have b1 := b1.below h1 b1.lt; have b2 := b2.below h1 b2.lt; have b3 := b3.below h1 b3.lt
  have hw2 := hw1.trans (h1.mono (by rw [← HGS.out]; exact hw1.size))
  clear h1 hw1
  cases hmq : mayH q with
  | false =>
    have HN := Lib.hid (passH_no2 (p := p) hmq)
    clear hmq
    have q20 : w2.cell? ⟨g + 2, 0, none⟩ = some (.int .i64 0) := b2.cell 0 rfl; have q21 : w2.cell? ⟨g + 2, 1, none⟩ = some (.slice none 0 0) := b2.cell 1 rfl; have q22 : w2.cell? ⟨g + 2, 2, none⟩ = some (.slice none 0 0) := b2.cell 2 rfl
    have q30 : w2.cell? ⟨g + 3, 0, none⟩ = some (.int .i64 0) := b3.cell 0 rfl; have q31 : w2.cell? ⟨g + 3, 1, none⟩ = some (.slice none 0 0) := b3.cell 1 rfl; have q32 : w2.cell? ⟨g + 3, 2, none⟩ = some (.slice none 0 0) := b3.cell 2 rfl
    have f20 := b2.frozen 0; have f21 := b2.frozen 1; have f22 := b2.frozen 2; have f30 := b3.frozen 0; have f31 := b3.frozen 1; have f32 := b3.frozen 2
    go_wp2_with fail
    obtain ⟨z2, z3⟩ := two_set b2 b3 (by omega) (.int .i64 0) (.slice none 0 0) (.slice none 0 0) (.int .i64 0) (.slice none 0 0) (.slice none 0 0)
    have hb6 := below_set6 (b := g + 2) (b' := g + 3) hw2 (by omega) (by omega) (.int .i64 0) (.slice none 0 0) (.slice none 0 0) (.int .i64 0) (.slice none 0 0) (.slice none 0 0)
    generalize (((((World.setCell w2 ⟨g + 2, 0, none⟩ (.int .i64 0)).setCell ⟨g + 2, 1, none⟩ (.slice none 0 0)).setCell ⟨g + 2, 2, none⟩ (.slice none 0 0)).setCell ⟨g + 3, 0, none⟩ (.int .i64 0)).setCell ⟨g + 3, 1, none⟩ (.slice none 0 0)).setCell ⟨g + 3, 2, none⟩ (.slice none 0 0) = W3 at *
    have q20 : W3.cell? ⟨g + 2, 0, none⟩ = some (.int .i64 0) := z2.cell 0 rfl; have q21 : W3.cell? ⟨g + 2, 1, none⟩ = some (.slice none 0 0) := z2.cell 1 rfl; have q22 : W3.cell? ⟨g + 2, 2, none⟩ = some (.slice none 0 0) := z2.cell 2 rfl
    have q30 : W3.cell? ⟨g + 3, 0, none⟩ = some (.int .i64 0) := z3.cell 0 rfl; have q31 : W3.cell? ⟨g + 3, 1, none⟩ = some (.slice none 0 0) := z3.cell 1 rfl; have q32 : W3.cell? ⟨g + 3, 2, none⟩ = some (.slice none 0 0) := z3.cell 2 rfl
    refine bodyPost_ret (v := .tuple #[hkV 0 none 0 0 none 0 0, hkV 0 none 0 0 none 0 0, .bool false]) (by simp [results, Try.results65, go_sem, q20, q21, q22, q30, q31, q32]) rfl ?_
    exact passEndH_none HN.out (by rw [HGS.out]; exact hb6)
  | true =>
  have HMQ := Lib.hid hmq; clear hmq
  have x0 : w2.cell? ⟨g, 0, none⟩ = some (.int .i64 p.pos) := b0.cell 0 rfl; have x1 : w2.cell? ⟨g, 1, none⟩ = some (.slice A n c) := b0.cell 1 rfl; have x2 : w2.cell? ⟨g, 2, none⟩ = some (.slice A' n' c') := b0.cell 2 rfl
  have y0 : w2.cell? ⟨g + 1, 0, none⟩ = some (.int .i64 q.pos) := b1.cell 0 rfl; have y1 : w2.cell? ⟨g + 1, 1, none⟩ = some (.slice D m k) := b1.cell 1 rfl; have y2 : w2.cell? ⟨g + 1, 2, none⟩ = some (.slice D' m' k') := b1.cell 2 rfl
  go_wp2_with fail
  refine (ways A n c A' n' c' D m k D' m' k' p.pos q.pos w2).mono ?_
  rintro e w3 ⟨rfl, r0, r1, r2, h1⟩
  clear x0 x1 x2 y0 y1 y2
  have b0 := b0.below h1 b0.lt; have b1 := b1.below h1 b1.lt; have b2 := b2.below h1 b2.lt; have b3 := b3.below h1 b3.lt
  have hw3 := hw2.trans (h1.mono (by rw [← HGS.out]; exact hw2.size))
  clear h1 hw2
  generalize w2.heap.size = u at *
  go_wp2_with fail
  have HB0 := Lib.hid b0; have HB1 := Lib.hid b1; have HB2 := Lib.hid b2; have HB3 := Lib.hid b3; have HR0 := Lib.hid r0; have HR1 := Lib.hid r1; have HR2 := Lib.hid r2; have HW3 := Lib.hid hw3
  clear b0 b1 b2 b3 r0 r1 r2 hw3
  have PB0 := Lib.hid (mayH_pos HMP.out); have PB1 := Lib.hid (mayH_pos HMQ.out)
  go_loopw [26] (fun i wr => ∃ d, wr = w3.drewN d ∧ (i = .int .i64 0 ∨ (i = .int .i64 1 ∧ Shut1 p q n n') ∨ (i = .int .i64 2 ∧ Shut1 p q n n' ∧ Shut2 p q m m'))) (fun i _ => 2 - (intOf i).toNat)
  case atStart => exact ⟨0, rfl, .inl rfl⟩
  case round =>
    obtain ⟨d, rfl, rfl | ⟨rfl, hs1⟩ | ⟨rfl, hs1, hs2⟩⟩ := hrel
    · have row0 : (w3.drewN d).cell? ⟨u + 2, 0, none⟩ = some (wayV 96 u (u + 1)) := HR2.out.cell 0 rfl
      go_wp2_with fail
      refine (way1 u (u + 1) A n c A' n' c' D m k D' m' k' p.pos q.pos (w3.drewN d) PB0.out.1 PB0.out.2 PB1.out.1 PB1.out.2 hn hn' hm hm' HR0.out HR1.out).mono ?_
      rintro e w4 ⟨rfl, d1, rfl⟩
      clear row0
      by_cases o1 : p.pos + n' < q.pos
      · rw [decide_eq_true o1]
        by_cases o2 : q.pos - n' + n ≤ 1048576
        · have HN := Lib.hid (passH_open1 HV0.out.l HV0.out.l' HMP.out HMQ.out o1 o2 PB0.out.2)
          have HI := Lib.hid (show I64 (q.pos - n' + n) from ⟨by have := PB1.out.1; omega, by omega⟩)
          have HJ := Lib.hid (show I64 (p.pos) from HV0.out.p)
          have o3 := PB0.out.2
          obtain ⟨w4, hw4⟩ : ∃ w4, w4 = (w3.drewN d).drewN d1 := ⟨_, rfl⟩
          rw [← hw4]
          have c0 : Blk w4 g 49 #[.int .i64 p.pos, .slice A n c, .slice A' n' c'] := by rw [hw4]; exact HB0.out
          have c1 : Blk w4 (g + 1) 49 #[.int .i64 q.pos, .slice D m k, .slice D' m' k'] := by rw [hw4]; exact HB1.out
          have c2 : Blk w4 (g + 2) 49 #[.int .i64 0, .slice none 0 0, .slice none 0 0] := by rw [hw4]; exact HB2.out
          have c3 : Blk w4 (g + 3) 49 #[.int .i64 0, .slice none 0 0, .slice none 0 0] := by rw [hw4]; exact HB3.out
          have hw4' : Below g w w4 := by rw [hw4]; exact below_drewN (below_drewN HW3.out d) d1
          have hle : B ≤ w4.heap.size := Nat.le_trans hB hw4'.size
          have hgp : ∀ W, Below w4.heap.size w4 W → HV W B A n c A' n' c' p := fun W hb => (HV0.out.below (hw4'.mono (by rw [← HGS.out]; exact hB))).below (hb.mono hle)
          have hgq : ∀ W, Below w4.heap.size w4 W → HV W B D m k D' m' k' q := fun W hb => (GV0.out.below (hw4'.mono (by rw [← HGS.out]; exact hB))).below (hb.mono hle)
          have C0 := Lib.hid c0; have C1 := Lib.hid c1; have C2 := Lib.hid c2; have C3 := Lib.hid c3; have HW4 := Lib.hid hw4'
          have PP : Hid (∀ W, Below w4.heap.size w4 W → Calls Try.prog 82 #[hkV p.pos A n c A' n' c', .int .i64 (p.pos)] W (fun e u' => ∃ P p1 Q q1, e = .returned (hkV (p.pos) P n p1 Q n' q1) ∧ HV u' u'.heap.size P n p1 Q n' q1 (at_ p (p.pos)) ∧ (Hi W.heap.size P ∧ Hi W.heap.size Q) ∧ Below W.heap.size W u')) := Lib.hid (fun W hb => placed A n c A' n' c' B p (p.pos) W (Nat.le_trans hle hb.size) hn hn' (hgp W hb) HJ.out)
          have PQ : Hid (∀ W, Below w4.heap.size w4 W → Calls Try.prog 82 #[hkV q.pos D m k D' m' k', .int .i64 (q.pos - n' + n)] W (fun e u' => ∃ P p1 Q q1, e = .returned (hkV (q.pos - n' + n) P m p1 Q m' q1) ∧ HV u' u'.heap.size P m p1 Q m' q1 (at_ q (q.pos - n' + n)) ∧ (Hi W.heap.size P ∧ Hi W.heap.size Q) ∧ Below W.heap.size W u')) := Lib.hid (fun W hb => placed D m k D' m' k' B q (q.pos - n' + n) W (Nat.le_trans hle hb.size) hm hm' (hgq W hb) HI.out)
          have HC : Hid (∀ W, Below w4.heap.size w4 W → W.cell? ⟨g, 0, none⟩ = some (.int .i64 p.pos) ∧ W.cell? ⟨g, 1, none⟩ = some (.slice A n c) ∧ W.cell? ⟨g, 2, none⟩ = some (.slice A' n' c') ∧ W.cell? ⟨g + 1, 0, none⟩ = some (.int .i64 q.pos) ∧ W.cell? ⟨g + 1, 1, none⟩ = some (.slice D m k) ∧ W.cell? ⟨g + 1, 2, none⟩ = some (.slice D' m' k')) := Lib.hid (fun W hb => by
            have b := C0.out.below hb C0.out.lt
            have b' := C1.out.below hb C1.out.lt
            exact ⟨b.cell 0 rfl, b.cell 1 rfl, b.cell 2 rfl, b'.cell 0 rfl, b'.cell 1 rfl, b'.cell 2 rfl⟩)
          clear c0 c1 c2 c3 hw4 hw4' hgp hgq hle
          obtain ⟨x0, x1, x2, y0, y1, y2⟩ := HC.out w4 (Below.refl _ _)
          go_wp2_with fail
          go_region_held3 (fun W => W.cell? ⟨g, 0, none⟩ = some (.int .i64 p.pos) ∧ W.cell? ⟨g, 1, none⟩ = some (.slice A n c) ∧ W.cell? ⟨g, 2, none⟩ = some (.slice A' n' c') ∧ W.cell? ⟨g + 1, 0, none⟩ = some (.int .i64 q.pos) ∧ W.cell? ⟨g + 1, 1, none⟩ = some (.slice D m k) ∧ W.cell? ⟨g + 1, 2, none⟩ = some (.slice D' m' k'))
            (first | go_keep | (exact hS5) | (exact hS6))
            (first
              | (go_at_call 82; (with_reducible refine (PQ.out w4.drew (below_drewN (Below.refl _ _) 1)).mono ?_); rintro e w5 ⟨P5, p5, Q5, q5, rfl, hv, hh, hb⟩; have HH5 := Lib.hid hh; clear hh; have hbu := (below_drewN (Below.refl w4.heap.size w4) 1).trans hb; have hS5 := HC.out w5 hbu; have HU5 := Lib.hid hbu; have HV5 := Lib.hid hv; clear hb hbu hv)
              | (go_at_call 82; (with_reducible refine (PP.out w5 HU5.out).mono ?_); rintro e w6 ⟨P6, p6, Q6, q6, rfl, hv, hh, hb⟩; have HH6 := Lib.hid hh; clear hh; have hbu := HU5.out.trans (hb.mono HU5.out.size); have hS6 := HC.out w6 hbu; have HU6 := Lib.hid hbu; have HV6 := Lib.hid hv; have HB6 := Lib.hid hb;
                  have b2 := C2.out.below hbu C2.out.lt; have b3 := C3.out.below hbu C3.out.lt;
                  have q20 : w6.cell? ⟨g + 2, 0, none⟩ = some (.int .i64 0) := b2.cell 0 rfl; have q21 : w6.cell? ⟨g + 2, 1, none⟩ = some (.slice none 0 0) := b2.cell 1 rfl; have q22 : w6.cell? ⟨g + 2, 2, none⟩ = some (.slice none 0 0) := b2.cell 2 rfl;
                  have q30 : w6.cell? ⟨g + 3, 0, none⟩ = some (.int .i64 0) := b3.cell 0 rfl; have q31 : w6.cell? ⟨g + 3, 1, none⟩ = some (.slice none 0 0) := b3.cell 1 rfl; have q32 : w6.cell? ⟨g + 3, 2, none⟩ = some (.slice none 0 0) := b3.cell 2 rfl;
                  have f20 := b2.frozen 0; have f21 := b2.frozen 1; have f22 := b2.frozen 2; have f30 := b3.frozen 0; have f31 := b3.frozen 1; have f32 := b3.frozen 2;
                  have Z2 := Lib.hid b2; have Z3 := Lib.hid b3; clear hb hbu hv b2 b3))
          go_wp2_with fail
          have v5 := hv_set6 Z2.out Z3.out (by omega) (q.pos - n' + n) P5 m p5 Q5 m' q5 (p.pos) P6 n p6 Q6 n' q6 ((HV5.out.below HB6.out).up HB6.out.size)
          have v6 := hv_set6 Z2.out Z3.out (by omega) (q.pos - n' + n) P5 m p5 Q5 m' q5 (p.pos) P6 n p6 Q6 n' q6 HV6.out
          obtain ⟨z2, z3⟩ := two_set Z2.out Z3.out (by omega) (.int .i64 (q.pos - n' + n)) (.slice P5 m p5) (.slice Q5 m' q5) (.int .i64 (p.pos)) (.slice P6 n p6) (.slice Q6 n' q6)
          have hb6 := below_set6 (b := g + 2) (b' := g + 3) (HW4.out.trans (HU6.out.mono (by rw [← HGS.out]; exact HW4.out.size))) (by omega) (by omega) (.int .i64 (q.pos - n' + n)) (.slice P5 m p5) (.slice Q5 m' q5) (.int .i64 (p.pos)) (.slice P6 n p6) (.slice Q6 n' q6)
          have hsz := (below_set6 (b := g + 2) (b' := g + 3) (Below.refl 0 w6) (by omega) (by omega) (.int .i64 (q.pos - n' + n)) (.slice P5 m p5) (.slice Q5 m' q5) (.int .i64 (p.pos)) (.slice P6 n p6) (.slice Q6 n' q6)).size
          generalize (((((World.setCell w6 ⟨g + 2, 0, none⟩ (.int .i64 (q.pos - n' + n))).setCell ⟨g + 2, 1, none⟩ (.slice P5 m p5)).setCell ⟨g + 2, 2, none⟩ (.slice Q5 m' q5)).setCell ⟨g + 3, 0, none⟩ (.int .i64 (p.pos))).setCell ⟨g + 3, 1, none⟩ (.slice P6 n p6)).setCell ⟨g + 3, 2, none⟩ (.slice Q6 n' q6) = W3 at *
          clear q20 q21 q22 q30 q31 q32
          have q20 : W3.cell? ⟨g + 2, 0, none⟩ = some (.int .i64 (q.pos - n' + n)) := z2.cell 0 rfl; have q21 : W3.cell? ⟨g + 2, 1, none⟩ = some (.slice P5 m p5) := z2.cell 1 rfl; have q22 : W3.cell? ⟨g + 2, 2, none⟩ = some (.slice Q5 m' q5) := z2.cell 2 rfl
          have q30 : W3.cell? ⟨g + 3, 0, none⟩ = some (.int .i64 (p.pos)) := z3.cell 0 rfl; have q31 : W3.cell? ⟨g + 3, 1, none⟩ = some (.slice P6 n p6) := z3.cell 1 rfl; have q32 : W3.cell? ⟨g + 3, 2, none⟩ = some (.slice Q6 n' q6) := z3.cell 2 rfl
          refine bodyPost_ret (v := .tuple #[hkV (q.pos - n' + n) P5 m p5 Q5 m' q5, hkV (p.pos) P6 n p6 Q6 n' q6, .bool true]) (by simp [results, Try.results65, go_sem, q20, q21, q22, q30, q31, q32]) rfl ?_
          rw [HN.out]
          exact ⟨P5, m, p5, Q5, m', q5, P6, n, p6, Q6, n', q6, rfl, v5.up hsz, v6.up hsz, (by
            have l4 := HW4.out.size
            have l5 : w4.heap.size ≤ w5.heap.size := HU5.out.size
            rw [HGS.out] at l4 ⊢
            exact ⟨HH5.out.1.mono (show g ≤ w4.drew.heap.size from l4), HH5.out.2.mono (show g ≤ w4.drew.heap.size from l4), HH6.out.1.mono (Nat.le_trans l4 l5), HH6.out.2.mono (Nat.le_trans l4 l5)⟩), by rw [HGS.out]; exact hb6⟩
        · have hs : Shut1 p q n n' := fun h => o2 h.2.1
          go_wp2_with fail
          exact ⟨⟨_, rfl, .inr (.inl ⟨rfl, hs⟩)⟩, by simp [intOf]⟩
      · rw [decide_eq_false o1]
        have hs : Shut1 p q n n' := fun h => o1 h.1
        go_wp2_with fail
        exact ⟨⟨_, rfl, .inr (.inl ⟨rfl, hs⟩)⟩, by simp [intOf]⟩
    · have HS1 := Lib.hid hs1; clear hs1
      have row1 : (w3.drewN d).cell? ⟨u + 2, 1, none⟩ = some (wayV 97 u (u + 1)) := HR2.out.cell 1 rfl
      go_wp2_with fail
      refine (way2 u (u + 1) A n c A' n' c' D m k D' m' k' p.pos q.pos (w3.drewN d) PB0.out.1 PB0.out.2 PB1.out.1 PB1.out.2 hn hn' hm hm' HR0.out HR1.out).mono ?_
      rintro e w4 ⟨rfl, d1, rfl⟩
      clear row1
      by_cases o1 : q.pos + m < p.pos
      · rw [decide_eq_true o1]
        by_cases o2 : p.pos - m + m' ≤ 1048576
        · have HN := Lib.hid (passH_open2 GV0.out.l GV0.out.l' HMP.out HMQ.out o1 PB1.out.2 o2)
          have HI := Lib.hid (show I64 (q.pos) from GV0.out.p)
          have HJ := Lib.hid (show I64 (p.pos - m + m') from ⟨by have := PB0.out.1; omega, by omega⟩)
          have o3 := PB1.out.2
          obtain ⟨w4, hw4⟩ : ∃ w4, w4 = (w3.drewN d).drewN d1 := ⟨_, rfl⟩
          rw [← hw4]
          have c0 : Blk w4 g 49 #[.int .i64 p.pos, .slice A n c, .slice A' n' c'] := by rw [hw4]; exact HB0.out
          have c1 : Blk w4 (g + 1) 49 #[.int .i64 q.pos, .slice D m k, .slice D' m' k'] := by rw [hw4]; exact HB1.out
          have c2 : Blk w4 (g + 2) 49 #[.int .i64 0, .slice none 0 0, .slice none 0 0] := by rw [hw4]; exact HB2.out
          have c3 : Blk w4 (g + 3) 49 #[.int .i64 0, .slice none 0 0, .slice none 0 0] := by rw [hw4]; exact HB3.out
          have hw4' : Below g w w4 := by rw [hw4]; exact below_drewN (below_drewN HW3.out d) d1
          have hle : B ≤ w4.heap.size := Nat.le_trans hB hw4'.size
          have hgp : ∀ W, Below w4.heap.size w4 W → HV W B A n c A' n' c' p := fun W hb => (HV0.out.below (hw4'.mono (by rw [← HGS.out]; exact hB))).below (hb.mono hle)
          have hgq : ∀ W, Below w4.heap.size w4 W → HV W B D m k D' m' k' q := fun W hb => (GV0.out.below (hw4'.mono (by rw [← HGS.out]; exact hB))).below (hb.mono hle)
          have C0 := Lib.hid c0; have C1 := Lib.hid c1; have C2 := Lib.hid c2; have C3 := Lib.hid c3; have HW4 := Lib.hid hw4'
          have PP : Hid (∀ W, Below w4.heap.size w4 W → Calls Try.prog 82 #[hkV p.pos A n c A' n' c', .int .i64 (p.pos - m + m')] W (fun e u' => ∃ P p1 Q q1, e = .returned (hkV (p.pos - m + m') P n p1 Q n' q1) ∧ HV u' u'.heap.size P n p1 Q n' q1 (at_ p (p.pos - m + m')) ∧ (Hi W.heap.size P ∧ Hi W.heap.size Q) ∧ Below W.heap.size W u')) := Lib.hid (fun W hb => placed A n c A' n' c' B p (p.pos - m + m') W (Nat.le_trans hle hb.size) hn hn' (hgp W hb) HJ.out)
          have PQ : Hid (∀ W, Below w4.heap.size w4 W → Calls Try.prog 82 #[hkV q.pos D m k D' m' k', .int .i64 (q.pos)] W (fun e u' => ∃ P p1 Q q1, e = .returned (hkV (q.pos) P m p1 Q m' q1) ∧ HV u' u'.heap.size P m p1 Q m' q1 (at_ q (q.pos)) ∧ (Hi W.heap.size P ∧ Hi W.heap.size Q) ∧ Below W.heap.size W u')) := Lib.hid (fun W hb => placed D m k D' m' k' B q (q.pos) W (Nat.le_trans hle hb.size) hm hm' (hgq W hb) HI.out)
          have HC : Hid (∀ W, Below w4.heap.size w4 W → W.cell? ⟨g, 0, none⟩ = some (.int .i64 p.pos) ∧ W.cell? ⟨g, 1, none⟩ = some (.slice A n c) ∧ W.cell? ⟨g, 2, none⟩ = some (.slice A' n' c') ∧ W.cell? ⟨g + 1, 0, none⟩ = some (.int .i64 q.pos) ∧ W.cell? ⟨g + 1, 1, none⟩ = some (.slice D m k) ∧ W.cell? ⟨g + 1, 2, none⟩ = some (.slice D' m' k')) := Lib.hid (fun W hb => by
            have b := C0.out.below hb C0.out.lt
            have b' := C1.out.below hb C1.out.lt
            exact ⟨b.cell 0 rfl, b.cell 1 rfl, b.cell 2 rfl, b'.cell 0 rfl, b'.cell 1 rfl, b'.cell 2 rfl⟩)
          clear c0 c1 c2 c3 hw4 hw4' hgp hgq hle
          obtain ⟨x0, x1, x2, y0, y1, y2⟩ := HC.out w4 (Below.refl _ _)
          go_wp2_with fail
          go_region_held3 (fun W => W.cell? ⟨g, 0, none⟩ = some (.int .i64 p.pos) ∧ W.cell? ⟨g, 1, none⟩ = some (.slice A n c) ∧ W.cell? ⟨g, 2, none⟩ = some (.slice A' n' c') ∧ W.cell? ⟨g + 1, 0, none⟩ = some (.int .i64 q.pos) ∧ W.cell? ⟨g + 1, 1, none⟩ = some (.slice D m k) ∧ W.cell? ⟨g + 1, 2, none⟩ = some (.slice D' m' k'))
            (first | go_keep | (exact hS5) | (exact hS6))
            (first
              | (go_at_call 82; (with_reducible refine (PQ.out w4.drew (below_drewN (Below.refl _ _) 1)).mono ?_); rintro e w5 ⟨P5, p5, Q5, q5, rfl, hv, hh, hb⟩; have HH5 := Lib.hid hh; clear hh; have hbu := (below_drewN (Below.refl w4.heap.size w4) 1).trans hb; have hS5 := HC.out w5 hbu; have HU5 := Lib.hid hbu; have HV5 := Lib.hid hv; clear hb hbu hv)
              | (go_at_call 82; (with_reducible refine (PP.out w5 HU5.out).mono ?_); rintro e w6 ⟨P6, p6, Q6, q6, rfl, hv, hh, hb⟩; have HH6 := Lib.hid hh; clear hh; have hbu := HU5.out.trans (hb.mono HU5.out.size); have hS6 := HC.out w6 hbu; have HU6 := Lib.hid hbu; have HV6 := Lib.hid hv; have HB6 := Lib.hid hb;
                  have b2 := C2.out.below hbu C2.out.lt; have b3 := C3.out.below hbu C3.out.lt;
                  have q20 : w6.cell? ⟨g + 2, 0, none⟩ = some (.int .i64 0) := b2.cell 0 rfl; have q21 : w6.cell? ⟨g + 2, 1, none⟩ = some (.slice none 0 0) := b2.cell 1 rfl; have q22 : w6.cell? ⟨g + 2, 2, none⟩ = some (.slice none 0 0) := b2.cell 2 rfl;
                  have q30 : w6.cell? ⟨g + 3, 0, none⟩ = some (.int .i64 0) := b3.cell 0 rfl; have q31 : w6.cell? ⟨g + 3, 1, none⟩ = some (.slice none 0 0) := b3.cell 1 rfl; have q32 : w6.cell? ⟨g + 3, 2, none⟩ = some (.slice none 0 0) := b3.cell 2 rfl;
                  have f20 := b2.frozen 0; have f21 := b2.frozen 1; have f22 := b2.frozen 2; have f30 := b3.frozen 0; have f31 := b3.frozen 1; have f32 := b3.frozen 2;
                  have Z2 := Lib.hid b2; have Z3 := Lib.hid b3; clear hb hbu hv b2 b3))
          go_wp2_with fail
          have v5 := hv_set6 Z2.out Z3.out (by omega) (q.pos) P5 m p5 Q5 m' q5 (p.pos - m + m') P6 n p6 Q6 n' q6 ((HV5.out.below HB6.out).up HB6.out.size)
          have v6 := hv_set6 Z2.out Z3.out (by omega) (q.pos) P5 m p5 Q5 m' q5 (p.pos - m + m') P6 n p6 Q6 n' q6 HV6.out
          obtain ⟨z2, z3⟩ := two_set Z2.out Z3.out (by omega) (.int .i64 (q.pos)) (.slice P5 m p5) (.slice Q5 m' q5) (.int .i64 (p.pos - m + m')) (.slice P6 n p6) (.slice Q6 n' q6)
          have hb6 := below_set6 (b := g + 2) (b' := g + 3) (HW4.out.trans (HU6.out.mono (by rw [← HGS.out]; exact HW4.out.size))) (by omega) (by omega) (.int .i64 (q.pos)) (.slice P5 m p5) (.slice Q5 m' q5) (.int .i64 (p.pos - m + m')) (.slice P6 n p6) (.slice Q6 n' q6)
          have hsz := (below_set6 (b := g + 2) (b' := g + 3) (Below.refl 0 w6) (by omega) (by omega) (.int .i64 (q.pos)) (.slice P5 m p5) (.slice Q5 m' q5) (.int .i64 (p.pos - m + m')) (.slice P6 n p6) (.slice Q6 n' q6)).size
          generalize (((((World.setCell w6 ⟨g + 2, 0, none⟩ (.int .i64 (q.pos))).setCell ⟨g + 2, 1, none⟩ (.slice P5 m p5)).setCell ⟨g + 2, 2, none⟩ (.slice Q5 m' q5)).setCell ⟨g + 3, 0, none⟩ (.int .i64 (p.pos - m + m'))).setCell ⟨g + 3, 1, none⟩ (.slice P6 n p6)).setCell ⟨g + 3, 2, none⟩ (.slice Q6 n' q6) = W3 at *
          clear q20 q21 q22 q30 q31 q32
          have q20 : W3.cell? ⟨g + 2, 0, none⟩ = some (.int .i64 (q.pos)) := z2.cell 0 rfl; have q21 : W3.cell? ⟨g + 2, 1, none⟩ = some (.slice P5 m p5) := z2.cell 1 rfl; have q22 : W3.cell? ⟨g + 2, 2, none⟩ = some (.slice Q5 m' q5) := z2.cell 2 rfl
          have q30 : W3.cell? ⟨g + 3, 0, none⟩ = some (.int .i64 (p.pos - m + m')) := z3.cell 0 rfl; have q31 : W3.cell? ⟨g + 3, 1, none⟩ = some (.slice P6 n p6) := z3.cell 1 rfl; have q32 : W3.cell? ⟨g + 3, 2, none⟩ = some (.slice Q6 n' q6) := z3.cell 2 rfl
          refine bodyPost_ret (v := .tuple #[hkV (q.pos) P5 m p5 Q5 m' q5, hkV (p.pos - m + m') P6 n p6 Q6 n' q6, .bool true]) (by simp [results, Try.results65, go_sem, q20, q21, q22, q30, q31, q32]) rfl ?_
          rw [HN.out]
          exact ⟨P5, m, p5, Q5, m', q5, P6, n, p6, Q6, n', q6, rfl, v5.up hsz, v6.up hsz, (by
            have l4 := HW4.out.size
            have l5 : w4.heap.size ≤ w5.heap.size := HU5.out.size
            rw [HGS.out] at l4 ⊢
            exact ⟨HH5.out.1.mono (show g ≤ w4.drew.heap.size from l4), HH5.out.2.mono (show g ≤ w4.drew.heap.size from l4), HH6.out.1.mono (Nat.le_trans l4 l5), HH6.out.2.mono (Nat.le_trans l4 l5)⟩), by rw [HGS.out]; exact hb6⟩
        · have hs : Shut2 p q m m' := fun h => o2 h.2.2
          have o3 := PB1.out.2
          go_wp2_with fail
          exact ⟨⟨_, rfl, .inr (.inr ⟨rfl, HS1.out, hs⟩)⟩, by simp [intOf]⟩
      · rw [decide_eq_false o1]
        have hs : Shut2 p q m m' := fun h => o1 h.1
        go_wp2_with fail
        exact ⟨⟨_, rfl, .inr (.inr ⟨rfl, HS1.out, hs⟩)⟩, by simp [intOf]⟩
    · have HN := Lib.hid (passH_shut HV0.out.l HV0.out.l' GV0.out.l GV0.out.l' hs1 hs2)
      clear hs1 hs2
      have b2 := HB2.out.drewN d; have b3 := HB3.out.drewN d
      have q20 : (w3.drewN d).cell? ⟨g + 2, 0, none⟩ = some (.int .i64 0) := b2.cell 0 rfl; have q21 : (w3.drewN d).cell? ⟨g + 2, 1, none⟩ = some (.slice none 0 0) := b2.cell 1 rfl; have q22 : (w3.drewN d).cell? ⟨g + 2, 2, none⟩ = some (.slice none 0 0) := b2.cell 2 rfl
      have q30 : (w3.drewN d).cell? ⟨g + 3, 0, none⟩ = some (.int .i64 0) := b3.cell 0 rfl; have q31 : (w3.drewN d).cell? ⟨g + 3, 1, none⟩ = some (.slice none 0 0) := b3.cell 1 rfl; have q32 : (w3.drewN d).cell? ⟨g + 3, 2, none⟩ = some (.slice none 0 0) := b3.cell 2 rfl
      have f20 := b2.frozen 0; have f21 := b2.frozen 1; have f22 := b2.frozen 2; have f30 := b3.frozen 0; have f31 := b3.frozen 1; have f32 := b3.frozen 2
      go_wp2_with fail
      obtain ⟨z2, z3⟩ := two_set b2 b3 (by omega) (.int .i64 0) (.slice none 0 0) (.slice none 0 0) (.int .i64 0) (.slice none 0 0) (.slice none 0 0)
      have hb6 := below_set6 (b := g + 2) (b' := g + 3) (below_drewN HW3.out d) (by omega) (by omega) (.int .i64 0) (.slice none 0 0) (.slice none 0 0) (.int .i64 0) (.slice none 0 0) (.slice none 0 0)
      generalize (((((World.setCell (w3.drewN d) ⟨g + 2, 0, none⟩ (.int .i64 0)).setCell ⟨g + 2, 1, none⟩ (.slice none 0 0)).setCell ⟨g + 2, 2, none⟩ (.slice none 0 0)).setCell ⟨g + 3, 0, none⟩ (.int .i64 0)).setCell ⟨g + 3, 1, none⟩ (.slice none 0 0)).setCell ⟨g + 3, 2, none⟩ (.slice none 0 0) = W3 at *
      have q20 : W3.cell? ⟨g + 2, 0, none⟩ = some (.int .i64 0) := z2.cell 0 rfl; have q21 : W3.cell? ⟨g + 2, 1, none⟩ = some (.slice none 0 0) := z2.cell 1 rfl; have q22 : W3.cell? ⟨g + 2, 2, none⟩ = some (.slice none 0 0) := z2.cell 2 rfl
      have q30 : W3.cell? ⟨g + 3, 0, none⟩ = some (.int .i64 0) := z3.cell 0 rfl; have q31 : W3.cell? ⟨g + 3, 1, none⟩ = some (.slice none 0 0) := z3.cell 1 rfl; have q32 : W3.cell? ⟨g + 3, 2, none⟩ = some (.slice none 0 0) := z3.cell 2 rfl
      refine bodyPost_ret (v := .tuple #[hkV 0 none 0 0 none 0 0, hkV 0 none 0 0 none 0 0, .bool false]) (by simp [results, Try.results65, go_sem, q20, q21, q22, q30, q31, q32]) rfl ?_
      exact passEndH_none HN.out (by rw [HGS.out]; exact hb6)

theorem Pass (A : Option Addr) (n c : Nat) (A' : Option Addr) (n' c' : Nat) (D : Option Addr) (m k : Nat) (D' : Option Addr) (m' k' B : Nat) (p q : HU) (w : World) (hB : B ≤ w.heap.size) (hn : n ≤ 1000) (hn' : n' ≤ 1000) (hm : m ≤ 1000) (hm' : m' ≤ 1000)
    (hv : HV w B A n c A' n' c' p) (gv : HV w B D m k D' m' k' q) :
    Calls Try.prog 65 #[hkV p.pos A n c A' n' c', hkV q.pos D m k D' m' k'] w (PassEnd w (passH p q)) :=
  (PassHi A n c A' n' c' D m k D' m' k' B p q w hB hn hn' hm hm' hv gv).mono fun e w' h => h.end_

end Sw
end Go.Proofs.Ytbiiabfhngdeiaa

namespace Go.Proofs.Ytbiiabfhngdeiaa
open Go.RowKit
set_option linter.unusedVariables false
namespace Sw
open Tx Df Sq Hk

theorem outH_lines (p q : HU) : outH (passH p q) = (zeroH, zeroH) ∨ ((outH (passH p q)).1.old = q.old ∧ (outH (passH p q)).1.new = q.new ∧ (outH (passH p q)).2.old = p.old ∧ (outH (passH p q)).2.new = p.new) := by
  cases h : passH p q with
  | none => exact .inl rfl
  | some z =>
    obtain ⟨_, _, h3, _⟩ := passH_may h
    exact .inr (pass_moves (x := z.1) (y := z.2) h3).2

/-- What Pass tells of short hunks: short hunks. -/
theorem passL_end {w w' : World} {p q x y : HU} {b : Bool} {e : Ending} {n n' m m' : Nat} (h : PassEnd w (passH p q) e w') (b1 : p.old.length = n) (b2 : p.new.length = n') (b3 : q.old.length = m) (b4 : q.new.length = m') (hn : n ≤ 1000) (hn' : n' ≤ 1000) (hm : m ≤ 1000) (hm' : m' ≤ 1000)
    (hx : outH (passH p q) = (x, y)) (hb : (passH p q).isSome = b) :
    ∃ A n c A' n' c' D m k D' m' k', e = .returned (.tuple #[hkV x.pos A n c A' n' c', hkV y.pos D m k D' m' k', .bool b]) ∧
      HV w' w'.heap.size A n c A' n' c' x ∧ HV w' w'.heap.size D m k D' m' k' y ∧ (n ≤ 1000 ∧ n' ≤ 1000 ∧ m ≤ 1000 ∧ m' ≤ 1000) ∧ Below w.heap.size w w' := by
  have hl := outH_lines p q
  unfold PassEnd at h
  rw [hx, hb] at h
  rw [hx] at hl
  obtain ⟨A1, n1, c1, A2, n2, c2, D1, m1, k1, D2, m2, k2, rfl, v1, v2, hbl⟩ := h
  refine ⟨A1, n1, c1, A2, n2, c2, D1, m1, k1, D2, m2, k2, rfl, v1, v2, ?_, hbl⟩
  have a1 := v1.l; have a2 := v1.l'; have a3 := v2.l; have a4 := v2.l'
  rcases hl with hl | ⟨l1, l2, l3, l4⟩
  · injection hl with l1 l2
    subst l1 l2
    simp only [zeroH, List.length_nil] at a1 a2 a3 a4
    omega
  · rw [l1] at a1; rw [l2] at a2; rw [l3] at a3; rw [l4] at a4
    omega

theorem PassL (A : Option Addr) (n c : Nat) (A' : Option Addr) (n' c' : Nat) (D : Option Addr) (m k : Nat) (D' : Option Addr) (m' k' B : Nat) (p q : HU) (w : World) (x y : HU) (b : Bool) (hB : B ≤ w.heap.size) (hn : n ≤ 1000) (hn' : n' ≤ 1000) (hm : m ≤ 1000) (hm' : m' ≤ 1000)
    (hv : HV w B A n c A' n' c' p) (gv : HV w B D m k D' m' k' q) (hx : outH (passH p q) = (x, y)) (hb : (passH p q).isSome = b) :
    Calls Try.prog 65 #[hkV p.pos A n c A' n' c', hkV q.pos D m k D' m' k'] w (fun e w' => ∃ A n c A' n' c' D m k D' m' k', e = .returned (.tuple #[hkV x.pos A n c A' n' c', hkV y.pos D m k D' m' k', .bool b]) ∧
      HV w' w'.heap.size A n c A' n' c' x ∧ HV w' w'.heap.size D m k D' m' k' y ∧ (n ≤ 1000 ∧ n' ≤ 1000 ∧ m ≤ 1000 ∧ m' ≤ 1000) ∧ Below w.heap.size w w') :=
  (Pass A n c A' n' c' D m k D' m' k' B p q w hB hn hn' hm hm' hv gv).mono (fun e w' h => passL_end h hv.l hv.l' gv.l gv.l' hn hn' hm hm' hx hb)

theorem PassLHi (A : Option Addr) (n c : Nat) (A' : Option Addr) (n' c' : Nat) (D : Option Addr) (m k : Nat) (D' : Option Addr) (m' k' B : Nat) (p q : HU) (w : World) (x y : HU) (b : Bool) (hB : B ≤ w.heap.size) (hn : n ≤ 1000) (hn' : n' ≤ 1000) (hm : m ≤ 1000) (hm' : m' ≤ 1000)
    (hv : HV w B A n c A' n' c' p) (gv : HV w B D m k D' m' k' q) (hx : outH (passH p q) = (x, y)) (hb : (passH p q).isSome = b) :
    Calls Try.prog 65 #[hkV p.pos A n c A' n' c', hkV q.pos D m k D' m' k'] w (fun e w' => ∃ A n c A' n' c' D m k D' m' k', e = .returned (.tuple #[hkV x.pos A n c A' n' c', hkV y.pos D m k D' m' k', .bool b]) ∧
      HV w' w'.heap.size A n c A' n' c' x ∧ HV w' w'.heap.size D m k D' m' k' y ∧ (n ≤ 1000 ∧ n' ≤ 1000 ∧ m ≤ 1000 ∧ m' ≤ 1000) ∧ (Hi w.heap.size A ∧ Hi w.heap.size A' ∧ Hi w.heap.size D ∧ Hi w.heap.size D') ∧ Below w.heap.size w w') :=
  (PassHi A n c A' n' c' D m k D' m' k' B p q w hB hn hn' hm hm' hv gv).mono (fun e w' h => by
    obtain ⟨E1, i1, j1, E2, i2, j2, E3, i3, j3, E4, i4, j4, rfl, v1, v2, hh, hb'⟩ := h
    have h' : PassEnd w (passH p q) (.returned (.tuple #[hkV (outH (passH p q)).1.pos E1 i1 j1 E2 i2 j2, hkV (outH (passH p q)).2.pos E3 i3 j3 E4 i4 j4, .bool (passH p q).isSome])) w' := ⟨E1, i1, j1, E2, i2, j2, E3, i3, j3, E4, i4, j4, rfl, v1, v2, hb'⟩
    have hl := outH_lines p q
    rw [hx] at v1 v2 hl
    rw [hx, hb]
    have a1 := v1.l; have a2 := v1.l'; have a3 := v2.l; have a4 := v2.l'
    have b1 := hv.l; have b2 := hv.l'; have b3 := gv.l; have b4 := gv.l'
    refine ⟨E1, i1, j1, E2, i2, j2, E3, i3, j3, E4, i4, j4, rfl, v1, v2, ?_, hh, hb'⟩
    rcases hl with hl | ⟨l1, l2, l3, l4⟩
    · injection hl with l1 l2
      subst l1 l2
      simp only [zeroH, List.length_nil] at a1 a2 a3 a4
      omega
    · dsimp only at l1 l2 l3 l4
      rw [l1] at a1; rw [l2] at a2; rw [l3] at a3; rw [l4] at a4
      omega)

theorem Same_self (A : Option Addr) (n c : Nat) (A' : Option Addr) (n' c' : Nat) (D : Option Addr) (m k : Nat) (D' : Option Addr) (m' k' B : Nat) (h : HU) (w : World) (hB : B ≤ w.heap.size) (hv : HV w B A n c A' n' c' h) (gv : HV w B D m k D' m' k' h) :
    Calls Try.prog 61 #[hkV h.pos A n c A' n' c', hkV h.pos D m k D' m' k'] w (TestEnd w true) := by
  have := SameH A n c A' n' c' D m k D' m' k' B h h w hB hv gv
  rw [sameH_self] at this
  exact this

theorem mayH_moved {g h : HU} (hm : mayH g = true) (ho : h.old = g.old) (hn : h.new = g.new) (h0 : 0 ≤ h.pos) (h1 : h.pos ≤ 1048576) : mayH h = true := by
  unfold mayH at hm ⊢
  rw [ho, hn]
  simp only [Bool.and_eq_true, decide_eq_true_eq] at hm ⊢
  exact ⟨⟨h0, h1⟩, hm.2⟩
/-- What passed may be. -/
theorem passH_mays {p q x y : HU} (h : passH p q = some (x, y)) : mayH x = true ∧ mayH y = true := by
  obtain ⟨h1, h2, h3, h4, h5⟩ := passH_may h
  obtain ⟨a1, a2⟩ := pass_pos (x := x) (y := y) h3 (mayH_pos h1).1 (mayH_pos h2).1
  obtain ⟨_, b1, b2, b3, b4⟩ := pass_moves (x := x) (y := y) h3
  exact ⟨mayH_moved h2 b1 b2 a1 h4, mayH_moved h1 b3 b4 a2 h5⟩
theorem passH_back {p q x y : HU} (h : passH p q = some (x, y)) : passH x y = some (p, q) := by
  obtain ⟨h1, h2, h3, h4, h5⟩ := passH_may h
  obtain ⟨m1, m2⟩ := passH_mays h
  exact passH_some m1 m2 (pass_back (x := x) (y := y) h3) (mayH_pos h1).2 (mayH_pos h2).2
theorem passH_touch {p q : HU} (h1 : p.pos ≤ q.pos) (h2 : q.pos ≤ p.pos + p.new.length) : passH p q = none := by
  unfold passH
  rw [pass_touch h1 h2]
  split <;> rfl
theorem passH_three {p q r q1 p1 r1 p2 r2 q2 r3 q3 r4 p3 q4 p4 : HU} (i : passH p q = some (q1, p1)) (j : passH p1 r = some (r1, p2)) (k : passH q1 r1 = some (r2, q2))
    (l : passH q r = some (r3, q3)) (m : passH p r3 = some (r4, p3)) (n : passH p3 q3 = some (q4, p4)) : r2 = r4 ∧ q2 = q4 ∧ p2 = p4 :=
  pass_three (passH_may i).2.2.1 (passH_may j).2.2.1 (passH_may k).2.2.1 (passH_may l).2.2.1 (passH_may m).2.2.1 (passH_may n).2.2.1
/-- Where both change a list, those that are told do so, to the same. -/
theorem passH_same {l : List (List UInt8)} {p q x y : HU} (h : passH p q = some (x, y)) (h1 : applyE l p = 0) (h2 : applyE (applyL l p) q = 0) : applyE l x = 0 ∧ applyE (applyL l x) y = 0 ∧ applyL (applyL l x) y = applyL (applyL l p) q := by
  obtain ⟨m1, m2⟩ := passH_mays h
  obtain ⟨k, e1, e2⟩ := pass_same (passH_may h).2.2.1 (apply_done h1) (apply_done h2)
  obtain ⟨a1, a2⟩ := done_apply m1 e1
  subst a2
  obtain ⟨b1, b2⟩ := done_apply m2 e2
  exact ⟨a1, b1, b2⟩
/-- Turned they pass just if they do, in the other order. -/
theorem passH_turn {p q x y : HU} (h : passH p q = some (x, y)) : passH (turn q) (turn p) = some (turn y, turn x) := by
  obtain ⟨h1, h2, h3, h4, h5⟩ := passH_may h
  exact passH_some (by rw [mayH_turn]; exact h2) (by rw [mayH_turn]; exact h1) (pass_turn (x := x) (y := y) h3) h5 h4
theorem passH_turn_none {p q : HU} (h : passH p q = none) : passH (turn q) (turn p) = none := by
  cases hb : passH (turn q) (turn p) with
  | none => rfl
  | some z =>
    have := passH_turn (x := z.1) (y := z.2) hb
    rw [turn_turn, turn_turn, h] at this
    cases this
theorem none_of {α : Type} {o : Option α} (h : o.isSome = false) : o = none := by cases o with | none => rfl | some _ => cases h
theorem outH_none {o : Option (HU × HU)} {x y : HU} (h : outH o = (x, y)) (hb : o.isSome = false) : x = zeroH ∧ y = zeroH := by
  cases o with
  | none => injection h with h1 h2; exact ⟨h1.symm, h2.symm⟩
  | some z => cases hb

theorem outH_some {o : Option (HU × HU)} {x y : HU} (h : o = some (x, y)) : outH o = (x, y) := by subst h; rfl
theorem outH_of {o : Option (HU × HU)} {x y : HU} (h : outH o = (x, y)) (hb : o.isSome = true) : o = some (x, y) := by
  cases o with
  | none => cases hb
  | some z => exact congrArg some h

end Sw
end Go.Proofs.Ytbiiabfhngdeiaa
