/-
  Words and contracts, joined: PsRef PsCode FlRef2 FlLeaf PnSame TgLeaf TgWith FlBack FlMine FlWords.
-/
import Derived.Deep.Cut
import Derived.Deep.RegionHeld3
import Derived.WalkMore
import Derived.Deep.RegionWith
import Derived.Laws.StructEq
import Derived.BigQuiet
import Derived.Deep.RegionLaw
import Derived.Test.YtbiiabfhngdeiaaRows
import Derived.RangeFuncBound
import Derived.Shelf.Abstract
import Derived.Shelf.RegionOpen
import Derived.WalkKit
import Derived.OwnWalkIn
import Derived.TacticsInMore
import Derived.LoopNIn
import Derived.LoopIn
import Derived.Maps.AppendAt
import Derived.WalkSpells
import Derived.WalkLawsBesides
import Derived.Lib.Hide
import Derived.Test.YtbiiabfhngdeiaaBT1
set_option maxRecDepth 100000
namespace Go.Proofs.Ytbiiabfhngdeiaa
open Go.RowKit
set_option linter.unusedVariables false
set_option linter.unusedSimpArgs false
namespace Pr
open Tx Df Sq Hk Tr

section
variable {p q : Ch}
theorem passP_no1 (h : mayP p = false) : passP p q = none := by unfold passP; rw [if_pos (.inl h)]
theorem passP_no2 (h : mayP q = false) : passP p q = none := by unfold passP; rw [if_pos (.inr h)]
theorem passP_ap (hp : mayP p = true) (hq : mayP q = true) (h : apartP p q = true) : passP p q = some (q, p) := passP_apart hp hq (apartP_iff.1 h)
theorem passP_b (hp : mayP p = true) (hq : mayP q = true) (h : apartP p q = false) (kp : p.k = 3) (kq : q.k = 3) : passP p q = (Sw.passH p.h q.h).map fun z => (⟨q.k, q.nm, q.to, z.1⟩, ⟨p.k, p.nm, p.to, z.2⟩) := by
  unfold passP
  rw [if_neg (may_not hp hq), if_neg (by rw [h]; decide), if_pos ⟨kp, kq⟩]
theorem passP_o (hp : mayP p = true) (hq : mayP q = true) (h : apartP p q = false) (kp : p.k = 2) (kq : q.k = 3 ∨ q.k = 4) (hn : q.nm = p.to) : passP p q = some (⟨q.k, p.nm, q.to, q.h⟩, p) := by
  unfold passP
  rw [if_neg (may_not hp hq), if_neg (by rw [h]; decide), if_neg (by omega), if_pos ⟨kp, kq, hn⟩]
theorem passP_i (hp : mayP p = true) (hq : mayP q = true) (h : apartP p q = false) (kq : q.k = 2) (kp : p.k = 3 ∨ p.k = 4) (hn : p.nm = q.nm) : passP p q = some (q, ⟨p.k, q.to, p.to, p.h⟩) := by
  unfold passP
  rw [if_neg (may_not hp hq), if_neg (by rw [h]; decide), if_neg (by omega), if_neg (by omega), if_pos ⟨kq, kp, hn⟩]
theorem passP_n (h : apartP p q = false) (h3 : ¬ (p.k = 3 ∧ q.k = 3)) (ho : ¬ (p.k = 2 ∧ (q.k = 3 ∨ q.k = 4) ∧ q.nm = p.to)) (hi : ¬ (q.k = 2 ∧ (p.k = 3 ∨ p.k = 4) ∧ p.nm = q.nm)) : passP p q = none := by
  unfold passP
  by_cases hm : mayP p = false ∨ mayP q = false
  · rw [if_pos hm]
  · rw [if_neg hm, if_neg (show ¬ apartP p q = true by rw [h]; decide), if_neg h3, if_neg ho, if_neg hi]
end

/-- Two changes stored, one behind the other. -/
theorem two_set6 {W : World} {b b' : Nat} {t : TypeId} {x0 x1 x2 x3 x4 x5 y0 y1 y2 y3 y4 y5 : Value} (h : Blk W b t #[x0, x1, x2, x3, x4, x5]) (h' : Blk W b' t #[y0, y1, y2, y3, y4, y5]) (hne : b ≠ b') (v0 v1 v2 v3 v4 v5 u0 u1 u2 u3 u4 u5 : Value) :
    Blk ((((((((((((W.setCell ⟨b, 0, none⟩ v0).setCell ⟨b, 1, none⟩ v1).setCell ⟨b, 2, none⟩ v2).setCell ⟨b, 3, none⟩ v3).setCell ⟨b, 4, none⟩ v4).setCell ⟨b, 5, none⟩ v5).setCell ⟨b', 0, none⟩ u0).setCell ⟨b', 1, none⟩ u1).setCell ⟨b', 2, none⟩ u2).setCell ⟨b', 3, none⟩ u3).setCell ⟨b', 4, none⟩ u4).setCell ⟨b', 5, none⟩ u5) b t #[v0, v1, v2, v3, v4, v5] ∧
    Blk ((((((((((((W.setCell ⟨b, 0, none⟩ v0).setCell ⟨b, 1, none⟩ v1).setCell ⟨b, 2, none⟩ v2).setCell ⟨b, 3, none⟩ v3).setCell ⟨b, 4, none⟩ v4).setCell ⟨b, 5, none⟩ v5).setCell ⟨b', 0, none⟩ u0).setCell ⟨b', 1, none⟩ u1).setCell ⟨b', 2, none⟩ u2).setCell ⟨b', 3, none⟩ u3).setCell ⟨b', 4, none⟩ u4).setCell ⟨b', 5, none⟩ u5) b' t #[u0, u1, u2, u3, u4, u5] :=
  ⟨((((((blk6 h v0 v1 v2 v3 v4 v5).set_ne hne 0 u0).set_ne hne 1 u1).set_ne hne 2 u2).set_ne hne 3 u3).set_ne hne 4 u4).set_ne hne 5 u5,
   blk6 ((((((h'.set_ne hne.symm 0 v0).set_ne hne.symm 1 v1).set_ne hne.symm 2 v2).set_ne hne.symm 3 v3).set_ne hne.symm 4 v4).set_ne hne.symm 5 v5) u0 u1 u2 u3 u4 u5⟩
theorem below_set12 {B : Nat} {w W : World} {b b' : Nat} (h : Below B w W) (hb : B ≤ b) (hb' : B ≤ b') (v0 v1 v2 v3 v4 v5 u0 u1 u2 u3 u4 u5 : Value) :
    Below B w ((((((((((((W.setCell ⟨b, 0, none⟩ v0).setCell ⟨b, 1, none⟩ v1).setCell ⟨b, 2, none⟩ v2).setCell ⟨b, 3, none⟩ v3).setCell ⟨b, 4, none⟩ v4).setCell ⟨b, 5, none⟩ v5).setCell ⟨b', 0, none⟩ u0).setCell ⟨b', 1, none⟩ u1).setCell ⟨b', 2, none⟩ u2).setCell ⟨b', 3, none⟩ u3).setCell ⟨b', 4, none⟩ u4).setCell ⟨b', 5, none⟩ u5) :=
  (((((((((((h.setCell (p := ⟨b, 0, none⟩) hb v0).setCell (p := ⟨b, 1, none⟩) hb v1).setCell (p := ⟨b, 2, none⟩) hb v2).setCell (p := ⟨b, 3, none⟩) hb v3).setCell (p := ⟨b, 4, none⟩) hb v4).setCell (p := ⟨b, 5, none⟩) hb v5).setCell (p := ⟨b', 0, none⟩) hb' u0).setCell (p := ⟨b', 1, none⟩) hb' u1).setCell (p := ⟨b', 2, none⟩) hb' u2).setCell (p := ⟨b', 3, none⟩) hb' u3).setCell (p := ⟨b', 4, none⟩) hb' u4).setCell (p := ⟨b', 5, none⟩) hb' u5
theorem three_set {W : World} {b : Nat} {t : TypeId} {b' : Nat} {x : Array Value} (h : Blk W b t x) (hne : b ≠ b') (v3 v4 v5 : Value) : Blk (((W.setCell ⟨b', 3, none⟩ v3).setCell ⟨b', 4, none⟩ v4).setCell ⟨b', 5, none⟩ v5) b t x :=
  ((h.set_ne hne 3 v3).set_ne hne 4 v4).set_ne hne 5 v5

set_option maxHeartbeats 1000000 in
theorem refNames (A : Option Addr) (n c : Nat) (A' : Option Addr) (n' c' : Nat) (p : Ch) (s : List UInt8) (w : World) (b : Bool) (hb : namesP p s = b) :
    Calls Try.prog 86 #[prV p.k p.nm p.to p.h.pos A n c A' n' c', strV s] w (TestEnd w b) := by
  have HB := Lib.hid hb.symm
  clear hb
  have hw : Below w.heap.size w (w.alloc (.cells #[.int .i64 p.k, strV p.nm, strV p.to, .int .i64 p.h.pos, .slice A n c, .slice A' n' c'] 51)) := (Below.refl _ _).alloc (Nat.le_refl _) _
  have HW := Lib.hid hw; clear hw
  unfold namesP at HB
  by_cases h1 : p.nm = s
  · have e1 : (p.nm == s) = true := by simpa using h1
    have H1 := Lib.hid h1; clear h1
    go_enter Try.func86, Try.ntmps86
    go_wp2
    go_ret
    exact ⟨ret_bool (by rw [HB.out, decide_eq_true H1.out]; rfl), HW.out⟩
  have e1 : (p.nm == s) = false := by simpa using h1
  have H1 := Lib.hid h1; clear h1
  by_cases h2 : p.k = 2
  · have e2 : (p.k == 2) = true := by simpa using h2
    have H2 := Lib.hid h2; clear h2
    cases h3 : (p.to == s)
    all_goals
      go_enter Try.func86, Try.ntmps86
      go_wp2
      go_ret
    · exact ⟨ret_bool (by rw [HB.out, decide_eq_false H1.out, decide_eq_true H2.out, decide_eq_false (by simpa using h3)]; rfl), HW.out⟩
    · exact ⟨ret_bool (by rw [HB.out, decide_eq_false H1.out, decide_eq_true H2.out, decide_eq_true (by simpa using h3)]; rfl), HW.out⟩
  · have e2 : (p.k == 2) = false := by simpa using h2
    go_enter Try.func86, Try.ntmps86
    go_wp2
    go_ret
    exact ⟨ret_bool (by rw [HB.out, decide_eq_false H1.out, decide_eq_false h2]; rfl), HW.out⟩

set_option maxHeartbeats 1000000 in
theorem refLines (A : Option Addr) (n c : Nat) (A' : Option Addr) (n' c' : Nat) (p : Ch) (w : World) (b : Bool) (hb : (p.k == 3 || p.k == 4) = b) :
    Calls Try.prog 70 #[prV p.k p.nm p.to p.h.pos A n c A' n' c'] w (TestEnd w b) := by
  have HB := Lib.hid hb.symm
  clear hb
  have hw : Below w.heap.size w (w.alloc (.cells #[.int .i64 p.k, strV p.nm, strV p.to, .int .i64 p.h.pos, .slice A n c, .slice A' n' c'] 51)) := (Below.refl _ _).alloc (Nat.le_refl _) _
  have HW := Lib.hid hw; clear hw
  cases h1 : (p.k == 3)
  · cases h2 : (p.k == 4)
    all_goals
      go_enter Try.func70, Try.ntmps70
      go_wp2
      go_ret
      exact ⟨ret_bool (by rw [HB.out, h1, h2]; rfl), HW.out⟩
  · go_enter Try.func70, Try.ntmps70
    go_wp2
    go_ret
    exact ⟨ret_bool (by rw [HB.out, h1]; rfl), HW.out⟩

set_option maxHeartbeats 1000000 in
theorem refApart (A : Option Addr) (n c : Nat) (A' : Option Addr) (n' c' : Nat) (D : Option Addr) (m k : Nat) (D' : Option Addr) (m' k' : Nat) (p q : Ch) (w : World) (b : Bool) (hb : apartP p q = b) :
    Calls Try.prog 68 #[prV p.k p.nm p.to p.h.pos A n c A' n' c', prV q.k q.nm q.to q.h.pos D m k D' m' k'] w (TestEnd w b) := by
  have HB := Lib.hid hb.symm
  clear hb
  obtain ⟨b1, h1⟩ : ∃ b, namesP p q.nm = b := ⟨_, rfl⟩
  obtain ⟨b2, h2⟩ : ∃ b, namesP p q.to = b := ⟨_, rfl⟩
  have H1 := Lib.hid h1; have H2 := Lib.hid h2; clear h1 h2
  have hw := two_box w (.cells #[.int .i64 p.k, strV p.nm, strV p.to, .int .i64 p.h.pos, .slice A n c, .slice A' n' c'] 51) (.cells #[.int .i64 q.k, strV q.nm, strV q.to, .int .i64 q.h.pos, .slice D m k, .slice D' m' k'] 51)
  have b0 := (Blk.new w 51 #[.int .i64 p.k, strV p.nm, strV p.to, .int .i64 p.h.pos, .slice A n c, .slice A' n' c']).alloc (.cells #[.int .i64 q.k, strV q.nm, strV q.to, .int .i64 q.h.pos, .slice D m k, .slice D' m' k'] 51)
  have c0 := Blk.new (w.alloc (.cells #[.int .i64 p.k, strV p.nm, strV p.to, .int .i64 p.h.pos, .slice A n c, .slice A' n' c'] 51)) 51 #[.int .i64 q.k, strV q.nm, strV q.to, .int .i64 q.h.pos, .slice D m k, .slice D' m' k']
  simp only [World.size_alloc] at c0
  go_enter Try.func68, Try.ntmps68
  go_wp2_with fail
  generalize ((w.alloc (.cells #[.int .i64 p.k, strV p.nm, strV p.to, .int .i64 p.h.pos, .slice A n c, .slice A' n' c'] 51)).alloc (.cells #[.int .i64 q.k, strV q.nm, strV q.to, .int .i64 q.h.pos, .slice D m k, .slice D' m' k'] 51)) = w1 at *
  have HW1 := Lib.hid hw; have HB1 := Lib.hid b0; have HC1 := Lib.hid c0
  clear hw b0 c0
  refine (refNames A n c A' n' c' p q.nm w1 b1 H1.out).mono ?_
  rintro e w2 ⟨rfl, hb⟩
  have HW2 := Lib.hid (HW1.out.trans (hb.mono HW1.out.size)); have HB2 := Lib.hid (HB1.out.below hb HB1.out.lt); have HC2 := Lib.hid (HC1.out.below hb HC1.out.lt)
  clear hb HW1 HB1 HC1
  have x0 : w2.cell? ⟨w.heap.size, 0, none⟩ = some (.int .i64 p.k) := HB2.out.cell 0 rfl; have x1 : w2.cell? ⟨w.heap.size, 1, none⟩ = some (strV p.nm) := HB2.out.cell 1 rfl; have x2 : w2.cell? ⟨w.heap.size, 2, none⟩ = some (strV p.to) := HB2.out.cell 2 rfl; have x3 : w2.cell? ⟨w.heap.size, 3, none⟩ = some (.int .i64 p.h.pos) := HB2.out.cell 3 rfl; have x4 : w2.cell? ⟨w.heap.size, 4, none⟩ = some (.slice A n c) := HB2.out.cell 4 rfl; have x5 : w2.cell? ⟨w.heap.size, 5, none⟩ = some (.slice A' n' c') := HB2.out.cell 5 rfl
  have y0 : w2.cell? ⟨w.heap.size + 1, 0, none⟩ = some (.int .i64 q.k) := HC2.out.cell 0 rfl; have y1 : w2.cell? ⟨w.heap.size + 1, 1, none⟩ = some (strV q.nm) := HC2.out.cell 1 rfl; have y2 : w2.cell? ⟨w.heap.size + 1, 2, none⟩ = some (strV q.to) := HC2.out.cell 2 rfl; have y3 : w2.cell? ⟨w.heap.size + 1, 3, none⟩ = some (.int .i64 q.h.pos) := HC2.out.cell 3 rfl; have y4 : w2.cell? ⟨w.heap.size + 1, 4, none⟩ = some (.slice D m k) := HC2.out.cell 4 rfl; have y5 : w2.cell? ⟨w.heap.size + 1, 5, none⟩ = some (.slice D' m' k') := HC2.out.cell 5 rfl
  go_wp2_with fail
  refine (refNames A n c A' n' c' p q.to w2 b2 H2.out).mono ?_
  rintro e w3 ⟨rfl, hb⟩
  clear x0 x1 x2 x3 x4 x5 y0 y1 y2 y3 y4 y5
  have HW3 := Lib.hid (HW2.out.trans (hb.mono HW2.out.size)); have HB3 := Lib.hid (HB2.out.below hb HB2.out.lt); have HC3 := Lib.hid (HC2.out.below hb HC2.out.lt)
  clear hb HW2 HB2 HC2
  have x0 : w3.cell? ⟨w.heap.size, 0, none⟩ = some (.int .i64 p.k) := HB3.out.cell 0 rfl; have x1 : w3.cell? ⟨w.heap.size, 1, none⟩ = some (strV p.nm) := HB3.out.cell 1 rfl; have x2 : w3.cell? ⟨w.heap.size, 2, none⟩ = some (strV p.to) := HB3.out.cell 2 rfl; have x3 : w3.cell? ⟨w.heap.size, 3, none⟩ = some (.int .i64 p.h.pos) := HB3.out.cell 3 rfl; have x4 : w3.cell? ⟨w.heap.size, 4, none⟩ = some (.slice A n c) := HB3.out.cell 4 rfl; have x5 : w3.cell? ⟨w.heap.size, 5, none⟩ = some (.slice A' n' c') := HB3.out.cell 5 rfl
  have y0 : w3.cell? ⟨w.heap.size + 1, 0, none⟩ = some (.int .i64 q.k) := HC3.out.cell 0 rfl; have y1 : w3.cell? ⟨w.heap.size + 1, 1, none⟩ = some (strV q.nm) := HC3.out.cell 1 rfl; have y2 : w3.cell? ⟨w.heap.size + 1, 2, none⟩ = some (strV q.to) := HC3.out.cell 2 rfl; have y3 : w3.cell? ⟨w.heap.size + 1, 3, none⟩ = some (.int .i64 q.h.pos) := HC3.out.cell 3 rfl; have y4 : w3.cell? ⟨w.heap.size + 1, 4, none⟩ = some (.slice D m k) := HC3.out.cell 4 rfl; have y5 : w3.cell? ⟨w.heap.size + 1, 5, none⟩ = some (.slice D' m' k') := HC3.out.cell 5 rfl
  unfold apartP at HB
  rw [H1.out, H2.out] at HB
  by_cases hk : q.k = 2
  · have e1 : (q.k == 2) = true := by simpa using hk
    cases b1 <;> cases b2
    all_goals
      go_wp2
      go_ret
      exact ⟨ret_bool (by rw [HB.out]; simp [hk]), HW3.out⟩
  · have e1 : (q.k == 2) = false := by simpa using hk
    cases b1 <;> cases b2
    all_goals
      go_wp2
      go_ret
      exact ⟨ret_bool (by rw [HB.out]; simp [hk]), HW3.out⟩

set_option maxRecDepth 100000 in
set_option maxHeartbeats 8000000 in
theorem refPassE (A : Option Addr) (n c : Nat) (A' : Option Addr) (n' c' : Nat) (D : Option Addr) (m k : Nat) (D' : Option Addr) (m' k' : Nat) (p q : Ch) (w : World) (hl : n ≤ 1000 ∧ n' ≤ 1000) (gl : m ≤ 1000 ∧ m' ≤ 1000)
    (hv : PV w w.heap.size A n c A' n' c' p) (gv : PV w w.heap.size D m k D' m' k' q) :
    Calls Try.prog 56 #[prV p.k p.nm p.to p.h.pos A n c A' n' c', prV q.k q.nm q.to q.h.pos D m k D' m' k'] w (PPEndE A n c A' n' c' D m k D' m' k' w (passP p q)) := by
  have HV0 := Lib.hid hv; have GV0 := Lib.hid gv; have HL := Lib.hid hl; have GL := Lib.hid gl
  clear hl gl hv gv
  go_enter Try.func56, Try.ntmps56
  go_wp2_with fail
  have hw0 : Below w.heap.size w (((((w.alloc (.cells #[.int .i64 p.k, strV p.nm, strV p.to, .int .i64 p.h.pos, .slice A n c, .slice A' n' c'] 51)).alloc (.cells #[.int .i64 q.k, strV q.nm, strV q.to, .int .i64 q.h.pos, .slice D m k, .slice D' m' k'] 51)).alloc (.cells #[.int .i64 0, strV [], strV [], .int .i64 0, .slice none 0 0, .slice none 0 0] 51)).alloc (.cells #[.int .i64 0, strV [], strV [], .int .i64 0, .slice none 0 0, .slice none 0 0] 51)).alloc (.cells #[.int .i64 0, strV [], strV [], .int .i64 0, .slice none 0 0, .slice none 0 0] 51)) := (((((Below.refl _ _).alloc (Nat.le_refl _) _).alloc (by simp) _).alloc (by simp; omega) _).alloc (by simp; omega) _).alloc (by simp; omega) _
  have b0 := ((((Blk.new w 51 #[.int .i64 p.k, strV p.nm, strV p.to, .int .i64 p.h.pos, .slice A n c, .slice A' n' c']).alloc (.cells #[.int .i64 q.k, strV q.nm, strV q.to, .int .i64 q.h.pos, .slice D m k, .slice D' m' k'] 51)).alloc (.cells #[.int .i64 0, strV [], strV [], .int .i64 0, .slice none 0 0, .slice none 0 0] 51)).alloc (.cells #[.int .i64 0, strV [], strV [], .int .i64 0, .slice none 0 0, .slice none 0 0] 51)).alloc (.cells #[.int .i64 0, strV [], strV [], .int .i64 0, .slice none 0 0, .slice none 0 0] 51)
  have b1 := (((Blk.new (w.alloc (.cells #[.int .i64 p.k, strV p.nm, strV p.to, .int .i64 p.h.pos, .slice A n c, .slice A' n' c'] 51)) 51 #[.int .i64 q.k, strV q.nm, strV q.to, .int .i64 q.h.pos, .slice D m k, .slice D' m' k']).alloc (.cells #[.int .i64 0, strV [], strV [], .int .i64 0, .slice none 0 0, .slice none 0 0] 51)).alloc (.cells #[.int .i64 0, strV [], strV [], .int .i64 0, .slice none 0 0, .slice none 0 0] 51)).alloc (.cells #[.int .i64 0, strV [], strV [], .int .i64 0, .slice none 0 0, .slice none 0 0] 51)
  have b2 := ((Blk.new ((w.alloc (.cells #[.int .i64 p.k, strV p.nm, strV p.to, .int .i64 p.h.pos, .slice A n c, .slice A' n' c'] 51)).alloc (.cells #[.int .i64 q.k, strV q.nm, strV q.to, .int .i64 q.h.pos, .slice D m k, .slice D' m' k'] 51)) 51 #[.int .i64 0, strV [], strV [], .int .i64 0, .slice none 0 0, .slice none 0 0]).alloc (.cells #[.int .i64 0, strV [], strV [], .int .i64 0, .slice none 0 0, .slice none 0 0] 51)).alloc (.cells #[.int .i64 0, strV [], strV [], .int .i64 0, .slice none 0 0, .slice none 0 0] 51)
  have b3 := (Blk.new (((w.alloc (.cells #[.int .i64 p.k, strV p.nm, strV p.to, .int .i64 p.h.pos, .slice A n c, .slice A' n' c'] 51)).alloc (.cells #[.int .i64 q.k, strV q.nm, strV q.to, .int .i64 q.h.pos, .slice D m k, .slice D' m' k'] 51)).alloc (.cells #[.int .i64 0, strV [], strV [], .int .i64 0, .slice none 0 0, .slice none 0 0] 51)) 51 #[.int .i64 0, strV [], strV [], .int .i64 0, .slice none 0 0, .slice none 0 0]).alloc (.cells #[.int .i64 0, strV [], strV [], .int .i64 0, .slice none 0 0, .slice none 0 0] 51)
  have b4 := Blk.new ((((w.alloc (.cells #[.int .i64 p.k, strV p.nm, strV p.to, .int .i64 p.h.pos, .slice A n c, .slice A' n' c'] 51)).alloc (.cells #[.int .i64 q.k, strV q.nm, strV q.to, .int .i64 q.h.pos, .slice D m k, .slice D' m' k'] 51)).alloc (.cells #[.int .i64 0, strV [], strV [], .int .i64 0, .slice none 0 0, .slice none 0 0] 51)).alloc (.cells #[.int .i64 0, strV [], strV [], .int .i64 0, .slice none 0 0, .slice none 0 0] 51)) 51 #[.int .i64 0, strV [], strV [], .int .i64 0, .slice none 0 0, .slice none 0 0]
  simp only [World.size_alloc] at b1 b2 b3 b4
  generalize (((((w.alloc (.cells #[.int .i64 p.k, strV p.nm, strV p.to, .int .i64 p.h.pos, .slice A n c, .slice A' n' c'] 51)).alloc (.cells #[.int .i64 q.k, strV q.nm, strV q.to, .int .i64 q.h.pos, .slice D m k, .slice D' m' k'] 51)).alloc (.cells #[.int .i64 0, strV [], strV [], .int .i64 0, .slice none 0 0, .slice none 0 0] 51)).alloc (.cells #[.int .i64 0, strV [], strV [], .int .i64 0, .slice none 0 0, .slice none 0 0] 51)).alloc (.cells #[.int .i64 0, strV [], strV [], .int .i64 0, .slice none 0 0, .slice none 0 0] 51)) = w0 at *
  obtain ⟨g, hgs⟩ : ∃ g, w.heap.size = g := ⟨_, rfl⟩
  rw [hgs] at b0 b1 b2 b3 b4 ⊢
  rw [show g + 1 + 1 = g + 2 from rfl] at b2 b3 b4 ⊢
  rw [show g + 2 + 1 = g + 3 from rfl] at b3 b4 ⊢
  rw [show g + 3 + 1 = g + 4 from rfl] at b4 ⊢
  have HGS := Lib.hid hgs
  have hv0 := HV0.out.mv hw0; have gv0 := GV0.out.mv hw0
  rw [hgs] at hw0
  have HW0 := Lib.hid hw0
  have HB0w0 := Lib.hid b0; have HB1w0 := Lib.hid b1; have HB2w0 := Lib.hid b2; have HB3w0 := Lib.hid b3; have HB4w0 := Lib.hid b4
  clear hgs b0 b1 b2 b3 b4 hw0
  obtain ⟨bp, hbp⟩ : ∃ b, mayP p = b := ⟨_, rfl⟩
  obtain ⟨bq, hbq⟩ : ∃ b, mayP q = b := ⟨_, rfl⟩
  obtain ⟨ba, hba⟩ : ∃ b, apartP p q = b := ⟨_, rfl⟩
  have HBP := Lib.hid hbp; have HBQ := Lib.hid hbq; have HBA := Lib.hid hba
  clear hbp hbq hba
  have HWw0 := HW0
  have HVw0 := Lib.hid hv0; have GVw0 := Lib.hid gv0
  clear hv0 gv0 HW0
  have HGw0 := Lib.hid (show g ≤ w0.heap.size by have := HB4w0.out.lt; omega)
  refine (refMayP A n c A' n' c' _ p w0 bp (Nat.le_refl _) HVw0.out HBP.out).mono ?_
  rintro e w1 ⟨rfl, hb⟩
  have HVw1 := Lib.hid (HVw0.out.mv hb); have GVw1 := Lib.hid (GVw0.out.mv hb); clear HVw0 GVw0
  have HWw1 := Lib.hid (HWw0.out.trans (hb.mono HGw0.out)); have HGw1 := Lib.hid (Nat.le_trans HGw0.out hb.size)
  have HB0w1 := Lib.hid (HB0w0.out.below hb HB0w0.out.lt); have HB1w1 := Lib.hid (HB1w0.out.below hb HB1w0.out.lt); have HB2w1 := Lib.hid (HB2w0.out.below hb HB2w0.out.lt); have HB3w1 := Lib.hid (HB3w0.out.below hb HB3w0.out.lt); have HB4w1 := Lib.hid (HB4w0.out.below hb HB4w0.out.lt)
  clear hb HWw0 HGw0 HB0w0 HB1w0 HB2w0 HB3w0 HB4w0
  have x0 : w1.cell? ⟨g, 0, none⟩ = some (.int .i64 p.k) := HB0w1.out.cell 0 rfl; have x1 : w1.cell? ⟨g, 1, none⟩ = some (strV p.nm) := HB0w1.out.cell 1 rfl; have x2 : w1.cell? ⟨g, 2, none⟩ = some (strV p.to) := HB0w1.out.cell 2 rfl; have x3 : w1.cell? ⟨g, 3, none⟩ = some (.int .i64 p.h.pos) := HB0w1.out.cell 3 rfl; have x4 : w1.cell? ⟨g, 4, none⟩ = some (.slice A n c) := HB0w1.out.cell 4 rfl; have x5 : w1.cell? ⟨g, 5, none⟩ = some (.slice A' n' c') := HB0w1.out.cell 5 rfl
  have y0 : w1.cell? ⟨g + 1, 0, none⟩ = some (.int .i64 q.k) := HB1w1.out.cell 0 rfl; have y1 : w1.cell? ⟨g + 1, 1, none⟩ = some (strV q.nm) := HB1w1.out.cell 1 rfl; have y2 : w1.cell? ⟨g + 1, 2, none⟩ = some (strV q.to) := HB1w1.out.cell 2 rfl; have y3 : w1.cell? ⟨g + 1, 3, none⟩ = some (.int .i64 q.h.pos) := HB1w1.out.cell 3 rfl; have y4 : w1.cell? ⟨g + 1, 4, none⟩ = some (.slice D m k) := HB1w1.out.cell 4 rfl; have y5 : w1.cell? ⟨g + 1, 5, none⟩ = some (.slice D' m' k') := HB1w1.out.cell 5 rfl
  have u0 : w1.cell? ⟨g + 2, 0, none⟩ = some (.int .i64 0) := HB2w1.out.cell 0 rfl; have u1 : w1.cell? ⟨g + 2, 1, none⟩ = some (strV []) := HB2w1.out.cell 1 rfl; have u2 : w1.cell? ⟨g + 2, 2, none⟩ = some (strV []) := HB2w1.out.cell 2 rfl; have u3 : w1.cell? ⟨g + 2, 3, none⟩ = some (.int .i64 0) := HB2w1.out.cell 3 rfl; have u4 : w1.cell? ⟨g + 2, 4, none⟩ = some (.slice none 0 0) := HB2w1.out.cell 4 rfl; have u5 : w1.cell? ⟨g + 2, 5, none⟩ = some (.slice none 0 0) := HB2w1.out.cell 5 rfl
  have v0 : w1.cell? ⟨g + 3, 0, none⟩ = some (.int .i64 0) := HB3w1.out.cell 0 rfl; have v1 : w1.cell? ⟨g + 3, 1, none⟩ = some (strV []) := HB3w1.out.cell 1 rfl; have v2 : w1.cell? ⟨g + 3, 2, none⟩ = some (strV []) := HB3w1.out.cell 2 rfl; have v3 : w1.cell? ⟨g + 3, 3, none⟩ = some (.int .i64 0) := HB3w1.out.cell 3 rfl; have v4 : w1.cell? ⟨g + 3, 4, none⟩ = some (.slice none 0 0) := HB3w1.out.cell 4 rfl; have v5 : w1.cell? ⟨g + 3, 5, none⟩ = some (.slice none 0 0) := HB3w1.out.cell 5 rfl
  have s0 : w1.cell? ⟨g + 4, 0, none⟩ = some (.int .i64 0) := HB4w1.out.cell 0 rfl; have s1 : w1.cell? ⟨g + 4, 1, none⟩ = some (strV []) := HB4w1.out.cell 1 rfl; have s2 : w1.cell? ⟨g + 4, 2, none⟩ = some (strV []) := HB4w1.out.cell 2 rfl; have s3 : w1.cell? ⟨g + 4, 3, none⟩ = some (.int .i64 0) := HB4w1.out.cell 3 rfl; have s4 : w1.cell? ⟨g + 4, 4, none⟩ = some (.slice none 0 0) := HB4w1.out.cell 4 rfl; have s5 : w1.cell? ⟨g + 4, 5, none⟩ = some (.slice none 0 0) := HB4w1.out.cell 5 rfl
  have f0 : w1.frozen? ⟨g + 2, 0, none⟩ = false := HB2w1.out.frozen 0; have h0 : w1.frozen? ⟨g + 3, 0, none⟩ = false := HB3w1.out.frozen 0; have f1 : w1.frozen? ⟨g + 2, 1, none⟩ = false := HB2w1.out.frozen 1; have h1 : w1.frozen? ⟨g + 3, 1, none⟩ = false := HB3w1.out.frozen 1; have f2 : w1.frozen? ⟨g + 2, 2, none⟩ = false := HB2w1.out.frozen 2; have h2 : w1.frozen? ⟨g + 3, 2, none⟩ = false := HB3w1.out.frozen 2; have f3 : w1.frozen? ⟨g + 2, 3, none⟩ = false := HB2w1.out.frozen 3; have h3 : w1.frozen? ⟨g + 3, 3, none⟩ = false := HB3w1.out.frozen 3; have f4 : w1.frozen? ⟨g + 2, 4, none⟩ = false := HB2w1.out.frozen 4; have h4 : w1.frozen? ⟨g + 3, 4, none⟩ = false := HB3w1.out.frozen 4; have f5 : w1.frozen? ⟨g + 2, 5, none⟩ = false := HB2w1.out.frozen 5; have h5 : w1.frozen? ⟨g + 3, 5, none⟩ = false := HB3w1.out.frozen 5
  go_wp2_with fail
  clear x0 y0 u0 v0 s0 f0 h0 x1 y1 u1 v1 s1 f1 h1 x2 y2 u2 v2 s2 f2 h2 x3 y3 u3 v3 s3 f3 h3 x4 y4 u4 v4 s4 f4 h4 x5 y5 u5 v5 s5 f5 h5
  refine (refMayP D m k D' m' k' _ q w1 bq (Nat.le_refl _) GVw1.out HBQ.out).mono ?_
  rintro e w2 ⟨rfl, hb⟩
  have HVw2 := Lib.hid (HVw1.out.mv hb); have GVw2 := Lib.hid (GVw1.out.mv hb); clear HVw1 GVw1
  have HWw2 := Lib.hid (HWw1.out.trans (hb.mono HGw1.out)); have HGw2 := Lib.hid (Nat.le_trans HGw1.out hb.size)
  have HB0w2 := Lib.hid (HB0w1.out.below hb HB0w1.out.lt); have HB1w2 := Lib.hid (HB1w1.out.below hb HB1w1.out.lt); have HB2w2 := Lib.hid (HB2w1.out.below hb HB2w1.out.lt); have HB3w2 := Lib.hid (HB3w1.out.below hb HB3w1.out.lt); have HB4w2 := Lib.hid (HB4w1.out.below hb HB4w1.out.lt)
  clear hb HWw1 HGw1 HB0w1 HB1w1 HB2w1 HB3w1 HB4w1
  have x0 : w2.cell? ⟨g, 0, none⟩ = some (.int .i64 p.k) := HB0w2.out.cell 0 rfl; have x1 : w2.cell? ⟨g, 1, none⟩ = some (strV p.nm) := HB0w2.out.cell 1 rfl; have x2 : w2.cell? ⟨g, 2, none⟩ = some (strV p.to) := HB0w2.out.cell 2 rfl; have x3 : w2.cell? ⟨g, 3, none⟩ = some (.int .i64 p.h.pos) := HB0w2.out.cell 3 rfl; have x4 : w2.cell? ⟨g, 4, none⟩ = some (.slice A n c) := HB0w2.out.cell 4 rfl; have x5 : w2.cell? ⟨g, 5, none⟩ = some (.slice A' n' c') := HB0w2.out.cell 5 rfl
  have y0 : w2.cell? ⟨g + 1, 0, none⟩ = some (.int .i64 q.k) := HB1w2.out.cell 0 rfl; have y1 : w2.cell? ⟨g + 1, 1, none⟩ = some (strV q.nm) := HB1w2.out.cell 1 rfl; have y2 : w2.cell? ⟨g + 1, 2, none⟩ = some (strV q.to) := HB1w2.out.cell 2 rfl; have y3 : w2.cell? ⟨g + 1, 3, none⟩ = some (.int .i64 q.h.pos) := HB1w2.out.cell 3 rfl; have y4 : w2.cell? ⟨g + 1, 4, none⟩ = some (.slice D m k) := HB1w2.out.cell 4 rfl; have y5 : w2.cell? ⟨g + 1, 5, none⟩ = some (.slice D' m' k') := HB1w2.out.cell 5 rfl
  have u0 : w2.cell? ⟨g + 2, 0, none⟩ = some (.int .i64 0) := HB2w2.out.cell 0 rfl; have u1 : w2.cell? ⟨g + 2, 1, none⟩ = some (strV []) := HB2w2.out.cell 1 rfl; have u2 : w2.cell? ⟨g + 2, 2, none⟩ = some (strV []) := HB2w2.out.cell 2 rfl; have u3 : w2.cell? ⟨g + 2, 3, none⟩ = some (.int .i64 0) := HB2w2.out.cell 3 rfl; have u4 : w2.cell? ⟨g + 2, 4, none⟩ = some (.slice none 0 0) := HB2w2.out.cell 4 rfl; have u5 : w2.cell? ⟨g + 2, 5, none⟩ = some (.slice none 0 0) := HB2w2.out.cell 5 rfl
  have v0 : w2.cell? ⟨g + 3, 0, none⟩ = some (.int .i64 0) := HB3w2.out.cell 0 rfl; have v1 : w2.cell? ⟨g + 3, 1, none⟩ = some (strV []) := HB3w2.out.cell 1 rfl; have v2 : w2.cell? ⟨g + 3, 2, none⟩ = some (strV []) := HB3w2.out.cell 2 rfl; have v3 : w2.cell? ⟨g + 3, 3, none⟩ = some (.int .i64 0) := HB3w2.out.cell 3 rfl; have v4 : w2.cell? ⟨g + 3, 4, none⟩ = some (.slice none 0 0) := HB3w2.out.cell 4 rfl; have v5 : w2.cell? ⟨g + 3, 5, none⟩ = some (.slice none 0 0) := HB3w2.out.cell 5 rfl
  have s0 : w2.cell? ⟨g + 4, 0, none⟩ = some (.int .i64 0) := HB4w2.out.cell 0 rfl; have s1 : w2.cell? ⟨g + 4, 1, none⟩ = some (strV []) := HB4w2.out.cell 1 rfl; have s2 : w2.cell? ⟨g + 4, 2, none⟩ = some (strV []) := HB4w2.out.cell 2 rfl; have s3 : w2.cell? ⟨g + 4, 3, none⟩ = some (.int .i64 0) := HB4w2.out.cell 3 rfl; have s4 : w2.cell? ⟨g + 4, 4, none⟩ = some (.slice none 0 0) := HB4w2.out.cell 4 rfl; have s5 : w2.cell? ⟨g + 4, 5, none⟩ = some (.slice none 0 0) := HB4w2.out.cell 5 rfl
  have f0 : w2.frozen? ⟨g + 2, 0, none⟩ = false := HB2w2.out.frozen 0; have h0 : w2.frozen? ⟨g + 3, 0, none⟩ = false := HB3w2.out.frozen 0; have f1 : w2.frozen? ⟨g + 2, 1, none⟩ = false := HB2w2.out.frozen 1; have h1 : w2.frozen? ⟨g + 3, 1, none⟩ = false := HB3w2.out.frozen 1; have f2 : w2.frozen? ⟨g + 2, 2, none⟩ = false := HB2w2.out.frozen 2; have h2 : w2.frozen? ⟨g + 3, 2, none⟩ = false := HB3w2.out.frozen 2; have f3 : w2.frozen? ⟨g + 2, 3, none⟩ = false := HB2w2.out.frozen 3; have h3 : w2.frozen? ⟨g + 3, 3, none⟩ = false := HB3w2.out.frozen 3; have f4 : w2.frozen? ⟨g + 2, 4, none⟩ = false := HB2w2.out.frozen 4; have h4 : w2.frozen? ⟨g + 3, 4, none⟩ = false := HB3w2.out.frozen 4; have f5 : w2.frozen? ⟨g + 2, 5, none⟩ = false := HB2w2.out.frozen 5; have h5 : w2.frozen? ⟨g + 3, 5, none⟩ = false := HB3w2.out.frozen 5
  cases bp with
  | false =>
    go_wp2_with fail
    go_region
    go_wp2_with fail
    obtain ⟨z2, z3⟩ := two_set6 HB2w2.out HB3w2.out (by omega) (.int .i64 0) (strV []) (strV []) (.int .i64 0) (.slice none 0 0) (.slice none 0 0) (.int .i64 0) (strV []) (strV []) (.int .i64 0) (.slice none 0 0) (.slice none 0 0)
    have hb6 := below_drewN (below_set12 (b := g + 2) (b' := g + 3) HWw2.out (by omega) (by omega) (.int .i64 0) (strV []) (strV []) (.int .i64 0) (.slice none 0 0) (.slice none 0 0) (.int .i64 0) (strV []) (strV []) (.int .i64 0) (.slice none 0 0) (.slice none 0 0)) 1
    have z2 := z2.drewN 1; have z3 := z3.drewN 1
    have hdr : ∀ W : World, W.drewN 1 = W.drew := fun _ => rfl
    rw [hdr] at hb6 z2 z3
    generalize World.drew (World.setCell (World.setCell (World.setCell (World.setCell (World.setCell (World.setCell (World.setCell (World.setCell (World.setCell (World.setCell (World.setCell (World.setCell w2 ⟨g + 2, 0, none⟩ (.int .i64 0)) ⟨g + 2, 1, none⟩ (strV [])) ⟨g + 2, 2, none⟩ (strV [])) ⟨g + 2, 3, none⟩ (.int .i64 0)) ⟨g + 2, 4, none⟩ (.slice none 0 0)) ⟨g + 2, 5, none⟩ (.slice none 0 0)) ⟨g + 3, 0, none⟩ (.int .i64 0)) ⟨g + 3, 1, none⟩ (strV [])) ⟨g + 3, 2, none⟩ (strV [])) ⟨g + 3, 3, none⟩ (.int .i64 0)) ⟨g + 3, 4, none⟩ (.slice none 0 0)) ⟨g + 3, 5, none⟩ (.slice none 0 0)) = W3 at *
    clear u0 v0 s0 u1 v1 s1 u2 v2 s2 u3 v3 s3 u4 v4 s4 u5 v5 s5 f0 h0 f1 h1 f2 h2 f3 h3 f4 h4 f5 h5
    have u0 : W3.cell? ⟨g + 2, 0, none⟩ = some (.int .i64 0) := z2.cell 0 rfl; have u1 : W3.cell? ⟨g + 2, 1, none⟩ = some (strV []) := z2.cell 1 rfl; have u2 : W3.cell? ⟨g + 2, 2, none⟩ = some (strV []) := z2.cell 2 rfl; have u3 : W3.cell? ⟨g + 2, 3, none⟩ = some (.int .i64 0) := z2.cell 3 rfl; have u4 : W3.cell? ⟨g + 2, 4, none⟩ = some (.slice none 0 0) := z2.cell 4 rfl; have u5 : W3.cell? ⟨g + 2, 5, none⟩ = some (.slice none 0 0) := z2.cell 5 rfl
    have v0 : W3.cell? ⟨g + 3, 0, none⟩ = some (.int .i64 0) := z3.cell 0 rfl; have v1 : W3.cell? ⟨g + 3, 1, none⟩ = some (strV []) := z3.cell 1 rfl; have v2 : W3.cell? ⟨g + 3, 2, none⟩ = some (strV []) := z3.cell 2 rfl; have v3 : W3.cell? ⟨g + 3, 3, none⟩ = some (.int .i64 0) := z3.cell 3 rfl; have v4 : W3.cell? ⟨g + 3, 4, none⟩ = some (.slice none 0 0) := z3.cell 4 rfl; have v5 : W3.cell? ⟨g + 3, 5, none⟩ = some (.slice none 0 0) := z3.cell 5 rfl
    refine bodyPost_ret (v := .tuple #[.agg #[.int .i64 0, strV [], strV [], .int .i64 0, .slice none 0 0, .slice none 0 0], .agg #[.int .i64 0, strV [], strV [], .int .i64 0, .slice none 0 0, .slice none 0 0], .bool false]) (by simp [results, Try.results56, go_sem, u0, v0, u1, v1, u2, v2, u3, v3, u4, v4, u5, v5]) rfl ?_
    have hW : Below w.heap.size w W3 := by rw [HGS.out]; exact hb6
    exact ppEndE_none (passP_no1 HBP.out) hW
  | true =>
  cases bq with
  | false =>
    go_wp2_with fail
    go_region
    go_wp2_with fail
    obtain ⟨z2, z3⟩ := two_set6 HB2w2.out HB3w2.out (by omega) (.int .i64 0) (strV []) (strV []) (.int .i64 0) (.slice none 0 0) (.slice none 0 0) (.int .i64 0) (strV []) (strV []) (.int .i64 0) (.slice none 0 0) (.slice none 0 0)
    have hb6 := below_drewN (below_set12 (b := g + 2) (b' := g + 3) HWw2.out (by omega) (by omega) (.int .i64 0) (strV []) (strV []) (.int .i64 0) (.slice none 0 0) (.slice none 0 0) (.int .i64 0) (strV []) (strV []) (.int .i64 0) (.slice none 0 0) (.slice none 0 0)) 1
    have z2 := z2.drewN 1; have z3 := z3.drewN 1
    have hdr : ∀ W : World, W.drewN 1 = W.drew := fun _ => rfl
    rw [hdr] at hb6 z2 z3
    generalize World.drew (World.setCell (World.setCell (World.setCell (World.setCell (World.setCell (World.setCell (World.setCell (World.setCell (World.setCell (World.setCell (World.setCell (World.setCell w2 ⟨g + 2, 0, none⟩ (.int .i64 0)) ⟨g + 2, 1, none⟩ (strV [])) ⟨g + 2, 2, none⟩ (strV [])) ⟨g + 2, 3, none⟩ (.int .i64 0)) ⟨g + 2, 4, none⟩ (.slice none 0 0)) ⟨g + 2, 5, none⟩ (.slice none 0 0)) ⟨g + 3, 0, none⟩ (.int .i64 0)) ⟨g + 3, 1, none⟩ (strV [])) ⟨g + 3, 2, none⟩ (strV [])) ⟨g + 3, 3, none⟩ (.int .i64 0)) ⟨g + 3, 4, none⟩ (.slice none 0 0)) ⟨g + 3, 5, none⟩ (.slice none 0 0)) = W3 at *
    clear u0 v0 s0 u1 v1 s1 u2 v2 s2 u3 v3 s3 u4 v4 s4 u5 v5 s5 f0 h0 f1 h1 f2 h2 f3 h3 f4 h4 f5 h5
    have u0 : W3.cell? ⟨g + 2, 0, none⟩ = some (.int .i64 0) := z2.cell 0 rfl; have u1 : W3.cell? ⟨g + 2, 1, none⟩ = some (strV []) := z2.cell 1 rfl; have u2 : W3.cell? ⟨g + 2, 2, none⟩ = some (strV []) := z2.cell 2 rfl; have u3 : W3.cell? ⟨g + 2, 3, none⟩ = some (.int .i64 0) := z2.cell 3 rfl; have u4 : W3.cell? ⟨g + 2, 4, none⟩ = some (.slice none 0 0) := z2.cell 4 rfl; have u5 : W3.cell? ⟨g + 2, 5, none⟩ = some (.slice none 0 0) := z2.cell 5 rfl
    have v0 : W3.cell? ⟨g + 3, 0, none⟩ = some (.int .i64 0) := z3.cell 0 rfl; have v1 : W3.cell? ⟨g + 3, 1, none⟩ = some (strV []) := z3.cell 1 rfl; have v2 : W3.cell? ⟨g + 3, 2, none⟩ = some (strV []) := z3.cell 2 rfl; have v3 : W3.cell? ⟨g + 3, 3, none⟩ = some (.int .i64 0) := z3.cell 3 rfl; have v4 : W3.cell? ⟨g + 3, 4, none⟩ = some (.slice none 0 0) := z3.cell 4 rfl; have v5 : W3.cell? ⟨g + 3, 5, none⟩ = some (.slice none 0 0) := z3.cell 5 rfl
    refine bodyPost_ret (v := .tuple #[.agg #[.int .i64 0, strV [], strV [], .int .i64 0, .slice none 0 0, .slice none 0 0], .agg #[.int .i64 0, strV [], strV [], .int .i64 0, .slice none 0 0, .slice none 0 0], .bool false]) (by simp [results, Try.results56, go_sem, u0, v0, u1, v1, u2, v2, u3, v3, u4, v4, u5, v5]) rfl ?_
    have hW : Below w.heap.size w W3 := by rw [HGS.out]; exact hb6
    exact ppEndE_none (passP_no2 HBQ.out) hW
  | true =>
  go_wp2_with fail
  clear x0 y0 u0 v0 s0 f0 h0 x1 y1 u1 v1 s1 f1 h1 x2 y2 u2 v2 s2 f2 h2 x3 y3 u3 v3 s3 f3 h3 x4 y4 u4 v4 s4 f4 h4 x5 y5 u5 v5 s5 f5 h5
  refine (refApart A n c A' n' c' D m k D' m' k' p q w2 ba HBA.out).mono ?_
  rintro e w3 ⟨rfl, hb⟩
  have HVw3 := Lib.hid (HVw2.out.mv hb); have GVw3 := Lib.hid (GVw2.out.mv hb); clear HVw2 GVw2
  have HWw3 := Lib.hid (HWw2.out.trans (hb.mono HGw2.out)); have HGw3 := Lib.hid (Nat.le_trans HGw2.out hb.size)
  have HB0w3 := Lib.hid (HB0w2.out.below hb HB0w2.out.lt); have HB1w3 := Lib.hid (HB1w2.out.below hb HB1w2.out.lt); have HB2w3 := Lib.hid (HB2w2.out.below hb HB2w2.out.lt); have HB3w3 := Lib.hid (HB3w2.out.below hb HB3w2.out.lt); have HB4w3 := Lib.hid (HB4w2.out.below hb HB4w2.out.lt)
  clear hb HWw2 HGw2 HB0w2 HB1w2 HB2w2 HB3w2 HB4w2
  have x0 : w3.cell? ⟨g, 0, none⟩ = some (.int .i64 p.k) := HB0w3.out.cell 0 rfl; have x1 : w3.cell? ⟨g, 1, none⟩ = some (strV p.nm) := HB0w3.out.cell 1 rfl; have x2 : w3.cell? ⟨g, 2, none⟩ = some (strV p.to) := HB0w3.out.cell 2 rfl; have x3 : w3.cell? ⟨g, 3, none⟩ = some (.int .i64 p.h.pos) := HB0w3.out.cell 3 rfl; have x4 : w3.cell? ⟨g, 4, none⟩ = some (.slice A n c) := HB0w3.out.cell 4 rfl; have x5 : w3.cell? ⟨g, 5, none⟩ = some (.slice A' n' c') := HB0w3.out.cell 5 rfl
  have y0 : w3.cell? ⟨g + 1, 0, none⟩ = some (.int .i64 q.k) := HB1w3.out.cell 0 rfl; have y1 : w3.cell? ⟨g + 1, 1, none⟩ = some (strV q.nm) := HB1w3.out.cell 1 rfl; have y2 : w3.cell? ⟨g + 1, 2, none⟩ = some (strV q.to) := HB1w3.out.cell 2 rfl; have y3 : w3.cell? ⟨g + 1, 3, none⟩ = some (.int .i64 q.h.pos) := HB1w3.out.cell 3 rfl; have y4 : w3.cell? ⟨g + 1, 4, none⟩ = some (.slice D m k) := HB1w3.out.cell 4 rfl; have y5 : w3.cell? ⟨g + 1, 5, none⟩ = some (.slice D' m' k') := HB1w3.out.cell 5 rfl
  have u0 : w3.cell? ⟨g + 2, 0, none⟩ = some (.int .i64 0) := HB2w3.out.cell 0 rfl; have u1 : w3.cell? ⟨g + 2, 1, none⟩ = some (strV []) := HB2w3.out.cell 1 rfl; have u2 : w3.cell? ⟨g + 2, 2, none⟩ = some (strV []) := HB2w3.out.cell 2 rfl; have u3 : w3.cell? ⟨g + 2, 3, none⟩ = some (.int .i64 0) := HB2w3.out.cell 3 rfl; have u4 : w3.cell? ⟨g + 2, 4, none⟩ = some (.slice none 0 0) := HB2w3.out.cell 4 rfl; have u5 : w3.cell? ⟨g + 2, 5, none⟩ = some (.slice none 0 0) := HB2w3.out.cell 5 rfl
  have v0 : w3.cell? ⟨g + 3, 0, none⟩ = some (.int .i64 0) := HB3w3.out.cell 0 rfl; have v1 : w3.cell? ⟨g + 3, 1, none⟩ = some (strV []) := HB3w3.out.cell 1 rfl; have v2 : w3.cell? ⟨g + 3, 2, none⟩ = some (strV []) := HB3w3.out.cell 2 rfl; have v3 : w3.cell? ⟨g + 3, 3, none⟩ = some (.int .i64 0) := HB3w3.out.cell 3 rfl; have v4 : w3.cell? ⟨g + 3, 4, none⟩ = some (.slice none 0 0) := HB3w3.out.cell 4 rfl; have v5 : w3.cell? ⟨g + 3, 5, none⟩ = some (.slice none 0 0) := HB3w3.out.cell 5 rfl
  have s0 : w3.cell? ⟨g + 4, 0, none⟩ = some (.int .i64 0) := HB4w3.out.cell 0 rfl; have s1 : w3.cell? ⟨g + 4, 1, none⟩ = some (strV []) := HB4w3.out.cell 1 rfl; have s2 : w3.cell? ⟨g + 4, 2, none⟩ = some (strV []) := HB4w3.out.cell 2 rfl; have s3 : w3.cell? ⟨g + 4, 3, none⟩ = some (.int .i64 0) := HB4w3.out.cell 3 rfl; have s4 : w3.cell? ⟨g + 4, 4, none⟩ = some (.slice none 0 0) := HB4w3.out.cell 4 rfl; have s5 : w3.cell? ⟨g + 4, 5, none⟩ = some (.slice none 0 0) := HB4w3.out.cell 5 rfl
  have f0 : w3.frozen? ⟨g + 2, 0, none⟩ = false := HB2w3.out.frozen 0; have h0 : w3.frozen? ⟨g + 3, 0, none⟩ = false := HB3w3.out.frozen 0; have f1 : w3.frozen? ⟨g + 2, 1, none⟩ = false := HB2w3.out.frozen 1; have h1 : w3.frozen? ⟨g + 3, 1, none⟩ = false := HB3w3.out.frozen 1; have f2 : w3.frozen? ⟨g + 2, 2, none⟩ = false := HB2w3.out.frozen 2; have h2 : w3.frozen? ⟨g + 3, 2, none⟩ = false := HB3w3.out.frozen 2; have f3 : w3.frozen? ⟨g + 2, 3, none⟩ = false := HB2w3.out.frozen 3; have h3 : w3.frozen? ⟨g + 3, 3, none⟩ = false := HB3w3.out.frozen 3; have f4 : w3.frozen? ⟨g + 2, 4, none⟩ = false := HB2w3.out.frozen 4; have h4 : w3.frozen? ⟨g + 3, 4, none⟩ = false := HB3w3.out.frozen 4; have f5 : w3.frozen? ⟨g + 2, 5, none⟩ = false := HB2w3.out.frozen 5; have h5 : w3.frozen? ⟨g + 3, 5, none⟩ = false := HB3w3.out.frozen 5
  cases ba with
  | true =>
    go_wp2_with fail
    go_region
    go_wp2_with fail
    obtain ⟨z2, z3⟩ := two_set6 HB2w3.out HB3w3.out (by omega) (.int .i64 q.k) (strV q.nm) (strV q.to) (.int .i64 q.h.pos) (.slice D m k) (.slice D' m' k') (.int .i64 p.k) (strV p.nm) (strV p.to) (.int .i64 p.h.pos) (.slice A n c) (.slice A' n' c')
    have hb6 := below_drewN (below_set12 (b := g + 2) (b' := g + 3) HWw3.out (by omega) (by omega) (.int .i64 q.k) (strV q.nm) (strV q.to) (.int .i64 q.h.pos) (.slice D m k) (.slice D' m' k') (.int .i64 p.k) (strV p.nm) (strV p.to) (.int .i64 p.h.pos) (.slice A n c) (.slice A' n' c')) 1
    have z2 := z2.drewN 1; have z3 := z3.drewN 1
    have hdr : ∀ W : World, W.drewN 1 = W.drew := fun _ => rfl
    rw [hdr] at hb6 z2 z3
    generalize World.drew (World.setCell (World.setCell (World.setCell (World.setCell (World.setCell (World.setCell (World.setCell (World.setCell (World.setCell (World.setCell (World.setCell (World.setCell w3 ⟨g + 2, 0, none⟩ (.int .i64 q.k)) ⟨g + 2, 1, none⟩ (strV q.nm)) ⟨g + 2, 2, none⟩ (strV q.to)) ⟨g + 2, 3, none⟩ (.int .i64 q.h.pos)) ⟨g + 2, 4, none⟩ (.slice D m k)) ⟨g + 2, 5, none⟩ (.slice D' m' k')) ⟨g + 3, 0, none⟩ (.int .i64 p.k)) ⟨g + 3, 1, none⟩ (strV p.nm)) ⟨g + 3, 2, none⟩ (strV p.to)) ⟨g + 3, 3, none⟩ (.int .i64 p.h.pos)) ⟨g + 3, 4, none⟩ (.slice A n c)) ⟨g + 3, 5, none⟩ (.slice A' n' c')) = W3 at *
    clear u0 v0 s0 u1 v1 s1 u2 v2 s2 u3 v3 s3 u4 v4 s4 u5 v5 s5 f0 h0 f1 h1 f2 h2 f3 h3 f4 h4 f5 h5
    have u0 : W3.cell? ⟨g + 2, 0, none⟩ = some (.int .i64 q.k) := z2.cell 0 rfl; have u1 : W3.cell? ⟨g + 2, 1, none⟩ = some (strV q.nm) := z2.cell 1 rfl; have u2 : W3.cell? ⟨g + 2, 2, none⟩ = some (strV q.to) := z2.cell 2 rfl; have u3 : W3.cell? ⟨g + 2, 3, none⟩ = some (.int .i64 q.h.pos) := z2.cell 3 rfl; have u4 : W3.cell? ⟨g + 2, 4, none⟩ = some (.slice D m k) := z2.cell 4 rfl; have u5 : W3.cell? ⟨g + 2, 5, none⟩ = some (.slice D' m' k') := z2.cell 5 rfl
    have v0 : W3.cell? ⟨g + 3, 0, none⟩ = some (.int .i64 p.k) := z3.cell 0 rfl; have v1 : W3.cell? ⟨g + 3, 1, none⟩ = some (strV p.nm) := z3.cell 1 rfl; have v2 : W3.cell? ⟨g + 3, 2, none⟩ = some (strV p.to) := z3.cell 2 rfl; have v3 : W3.cell? ⟨g + 3, 3, none⟩ = some (.int .i64 p.h.pos) := z3.cell 3 rfl; have v4 : W3.cell? ⟨g + 3, 4, none⟩ = some (.slice A n c) := z3.cell 4 rfl; have v5 : W3.cell? ⟨g + 3, 5, none⟩ = some (.slice A' n' c') := z3.cell 5 rfl
    refine bodyPost_ret (v := .tuple #[.agg #[.int .i64 q.k, strV q.nm, strV q.to, .int .i64 q.h.pos, .slice D m k, .slice D' m' k'], .agg #[.int .i64 p.k, strV p.nm, strV p.to, .int .i64 p.h.pos, .slice A n c, .slice A' n' c'], .bool true]) (by simp [results, Try.results56, go_sem, u0, v0, u1, v1, u2, v2, u3, v3, u4, v4, u5, v5]) rfl ?_
    have hW : Below w.heap.size w W3 := by rw [HGS.out]; exact hb6
    rw [(passP_ap HBP.out HBQ.out HBA.out)]; exact ppEndE_some hW
  | false =>
  by_cases h3 : p.k = 3 ∧ q.k = 3
  · have e1 : (p.k == 3) = true := by simpa using h3.1
    have e2 : (q.k == 3) = true := by simpa using h3.2
    have H3 := Lib.hid h3; clear h3
    go_wp2_with fail
    clear x0 y0 u0 v0 s0 f0 h0 x1 y1 u1 v1 s1 f1 h1 x2 y2 u2 v2 s2 f2 h2 x3 y3 u3 v3 s3 f3 h3 x4 y4 u4 v4 s4 f4 h4 x5 y5 u5 v5 s5 f5 h5
    refine (Sw.refPassE A n c A' n' c' D m k D' m' k' w3.heap.size p.h q.h w3 (Nat.le_refl _) HL.out.1 HL.out.2 GL.out.1 GL.out.2 HVw3.out.h GVw3.out.h HV0.out.s HV0.out.s' GV0.out.s GV0.out.s').mono ?_
    rintro e w4 ⟨hes, hen, hb⟩
    have HWw4 := Lib.hid (HWw3.out.trans (hb.mono HGw3.out)); have HGw4 := Lib.hid (Nat.le_trans HGw3.out hb.size)
    have HB0w4 := Lib.hid (HB0w3.out.below hb HB0w3.out.lt); have HB1w4 := Lib.hid (HB1w3.out.below hb HB1w3.out.lt); have HB2w4 := Lib.hid (HB2w3.out.below hb HB2w3.out.lt); have HB3w4 := Lib.hid (HB3w3.out.below hb HB3w3.out.lt); have HB4w4 := Lib.hid (HB4w3.out.below hb HB4w3.out.lt)
    clear hb HWw3 HGw3 HVw3 GVw3 HB0w3 HB1w3 HB2w3 HB3w3 HB4w3
    cases hz : Sw.passH p.h q.h with
    | none =>
      have HN : Hid (passP p q = none) := Lib.hid (by rw [passP_b HBP.out HBQ.out HBA.out H3.out.1 H3.out.2, hz]; rfl)
      have he := hen hz
      subst he
      clear hz
      clear hes hen
      have hb : Below w4.heap.size w4 ((w4.alloc (.cells #[.int .i64 0, .slice none 0 0, .slice none 0 0] 49)).alloc (.cells #[.int .i64 0, .slice none 0 0, .slice none 0 0] 49)) := two_box _ _ _
      have HBX := Lib.hid ((Blk.new w4 49 #[.int .i64 0, .slice none 0 0, .slice none 0 0]).alloc (.cells #[.int .i64 0, .slice none 0 0, .slice none 0 0] 49))
      have hby := Blk.new (w4.alloc (.cells #[.int .i64 0, .slice none 0 0, .slice none 0 0] 49)) 49 #[.int .i64 0, .slice none 0 0, .slice none 0 0]
      simp only [World.size_alloc] at hby
      have HBY := Lib.hid hby
      clear hby
      have HWw5 := Lib.hid (HWw4.out.trans (hb.mono HGw4.out)); have HGw5 := Lib.hid (Nat.le_trans HGw4.out hb.size)
      have HB0w5 := Lib.hid (HB0w4.out.below hb HB0w4.out.lt); have HB1w5 := Lib.hid (HB1w4.out.below hb HB1w4.out.lt); have HB2w5 := Lib.hid (HB2w4.out.below hb HB2w4.out.lt); have HB3w5 := Lib.hid (HB3w4.out.below hb HB3w4.out.lt); have HB4w5 := Lib.hid (HB4w4.out.below hb HB4w4.out.lt)
      have HG4 := Lib.hid (show g + 4 < w4.heap.size from HB4w4.out.lt)
      clear hb HWw4 HGw4 HB0w4 HB1w4 HB2w4 HB3w4 HB4w4
      go_upto_region 11 with fail
      generalize ((w4.alloc (.cells #[.int .i64 0, .slice none 0 0, .slice none 0 0] 49)).alloc (.cells #[.int .i64 0, .slice none 0 0, .slice none 0 0] 49)) = w5 at *
      generalize w4.heap.size = g5 at *
      have x0 : w5.cell? ⟨g, 0, none⟩ = some (.int .i64 p.k) := HB0w5.out.cell 0 rfl; have x1 : w5.cell? ⟨g, 1, none⟩ = some (strV p.nm) := HB0w5.out.cell 1 rfl; have x2 : w5.cell? ⟨g, 2, none⟩ = some (strV p.to) := HB0w5.out.cell 2 rfl; have x3 : w5.cell? ⟨g, 3, none⟩ = some (.int .i64 p.h.pos) := HB0w5.out.cell 3 rfl; have x4 : w5.cell? ⟨g, 4, none⟩ = some (.slice A n c) := HB0w5.out.cell 4 rfl; have x5 : w5.cell? ⟨g, 5, none⟩ = some (.slice A' n' c') := HB0w5.out.cell 5 rfl
      have y0 : w5.cell? ⟨g + 1, 0, none⟩ = some (.int .i64 q.k) := HB1w5.out.cell 0 rfl; have y1 : w5.cell? ⟨g + 1, 1, none⟩ = some (strV q.nm) := HB1w5.out.cell 1 rfl; have y2 : w5.cell? ⟨g + 1, 2, none⟩ = some (strV q.to) := HB1w5.out.cell 2 rfl; have y3 : w5.cell? ⟨g + 1, 3, none⟩ = some (.int .i64 q.h.pos) := HB1w5.out.cell 3 rfl; have y4 : w5.cell? ⟨g + 1, 4, none⟩ = some (.slice D m k) := HB1w5.out.cell 4 rfl; have y5 : w5.cell? ⟨g + 1, 5, none⟩ = some (.slice D' m' k') := HB1w5.out.cell 5 rfl
      have u0 : w5.cell? ⟨g + 2, 0, none⟩ = some (.int .i64 0) := HB2w5.out.cell 0 rfl; have u1 : w5.cell? ⟨g + 2, 1, none⟩ = some (strV []) := HB2w5.out.cell 1 rfl; have u2 : w5.cell? ⟨g + 2, 2, none⟩ = some (strV []) := HB2w5.out.cell 2 rfl; have u3 : w5.cell? ⟨g + 2, 3, none⟩ = some (.int .i64 0) := HB2w5.out.cell 3 rfl; have u4 : w5.cell? ⟨g + 2, 4, none⟩ = some (.slice none 0 0) := HB2w5.out.cell 4 rfl; have u5 : w5.cell? ⟨g + 2, 5, none⟩ = some (.slice none 0 0) := HB2w5.out.cell 5 rfl
      have v0 : w5.cell? ⟨g + 3, 0, none⟩ = some (.int .i64 0) := HB3w5.out.cell 0 rfl; have v1 : w5.cell? ⟨g + 3, 1, none⟩ = some (strV []) := HB3w5.out.cell 1 rfl; have v2 : w5.cell? ⟨g + 3, 2, none⟩ = some (strV []) := HB3w5.out.cell 2 rfl; have v3 : w5.cell? ⟨g + 3, 3, none⟩ = some (.int .i64 0) := HB3w5.out.cell 3 rfl; have v4 : w5.cell? ⟨g + 3, 4, none⟩ = some (.slice none 0 0) := HB3w5.out.cell 4 rfl; have v5 : w5.cell? ⟨g + 3, 5, none⟩ = some (.slice none 0 0) := HB3w5.out.cell 5 rfl
      have s0 : w5.cell? ⟨g + 4, 0, none⟩ = some (.int .i64 0) := HB4w5.out.cell 0 rfl; have s1 : w5.cell? ⟨g + 4, 1, none⟩ = some (strV []) := HB4w5.out.cell 1 rfl; have s2 : w5.cell? ⟨g + 4, 2, none⟩ = some (strV []) := HB4w5.out.cell 2 rfl; have s3 : w5.cell? ⟨g + 4, 3, none⟩ = some (.int .i64 0) := HB4w5.out.cell 3 rfl; have s4 : w5.cell? ⟨g + 4, 4, none⟩ = some (.slice none 0 0) := HB4w5.out.cell 4 rfl; have s5 : w5.cell? ⟨g + 4, 5, none⟩ = some (.slice none 0 0) := HB4w5.out.cell 5 rfl
      have f0 : w5.frozen? ⟨g + 2, 0, none⟩ = false := HB2w5.out.frozen 0; have h0 : w5.frozen? ⟨g + 3, 0, none⟩ = false := HB3w5.out.frozen 0; have f1 : w5.frozen? ⟨g + 2, 1, none⟩ = false := HB2w5.out.frozen 1; have h1 : w5.frozen? ⟨g + 3, 1, none⟩ = false := HB3w5.out.frozen 1; have f2 : w5.frozen? ⟨g + 2, 2, none⟩ = false := HB2w5.out.frozen 2; have h2 : w5.frozen? ⟨g + 3, 2, none⟩ = false := HB3w5.out.frozen 2; have f3 : w5.frozen? ⟨g + 2, 3, none⟩ = false := HB2w5.out.frozen 3; have h3 : w5.frozen? ⟨g + 3, 3, none⟩ = false := HB3w5.out.frozen 3; have f4 : w5.frozen? ⟨g + 2, 4, none⟩ = false := HB2w5.out.frozen 4; have h4 : w5.frozen? ⟨g + 3, 4, none⟩ = false := HB3w5.out.frozen 4; have f5 : w5.frozen? ⟨g + 2, 5, none⟩ = false := HB2w5.out.frozen 5; have h5 : w5.frozen? ⟨g + 3, 5, none⟩ = false := HB3w5.out.frozen 5
      have ne5 := HG4.out
      have a0 : w5.cell? ⟨g5, 0, none⟩ = some (.int .i64 0) := HBX.out.cell 0 rfl; have a1 : w5.cell? ⟨g5, 1, none⟩ = some (.slice none 0 0) := HBX.out.cell 1 rfl; have a2 : w5.cell? ⟨g5, 2, none⟩ = some (.slice none 0 0) := HBX.out.cell 2 rfl
      have b0 : w5.cell? ⟨g5 + 1, 0, none⟩ = some (.int .i64 0) := HBY.out.cell 0 rfl; have b1 : w5.cell? ⟨g5 + 1, 1, none⟩ = some (.slice none 0 0) := HBY.out.cell 1 rfl; have b2 : w5.cell? ⟨g5 + 1, 2, none⟩ = some (.slice none 0 0) := HBY.out.cell 2 rfl
      go_wp2_with fail
      go_region
      go_wp2_with fail
      obtain ⟨z2, z3⟩ := two_set6 HB2w5.out HB3w5.out (by omega) (.int .i64 0) (strV []) (strV []) (.int .i64 0) (.slice none 0 0) (.slice none 0 0) (.int .i64 0) (strV []) (strV []) (.int .i64 0) (.slice none 0 0) (.slice none 0 0)
      have hb6 := below_drewN (below_set12 (b := g + 2) (b' := g + 3) HWw5.out (by omega) (by omega) (.int .i64 0) (strV []) (strV []) (.int .i64 0) (.slice none 0 0) (.slice none 0 0) (.int .i64 0) (strV []) (strV []) (.int .i64 0) (.slice none 0 0) (.slice none 0 0)) 1
      have z2 := z2.drewN 1; have z3 := z3.drewN 1
      have hdr : ∀ W : World, W.drewN 1 = W.drew := fun _ => rfl
      rw [hdr] at hb6 z2 z3
      generalize World.drew (World.setCell (World.setCell (World.setCell (World.setCell (World.setCell (World.setCell (World.setCell (World.setCell (World.setCell (World.setCell (World.setCell (World.setCell w5 ⟨g + 2, 0, none⟩ (.int .i64 0)) ⟨g + 2, 1, none⟩ (strV [])) ⟨g + 2, 2, none⟩ (strV [])) ⟨g + 2, 3, none⟩ (.int .i64 0)) ⟨g + 2, 4, none⟩ (.slice none 0 0)) ⟨g + 2, 5, none⟩ (.slice none 0 0)) ⟨g + 3, 0, none⟩ (.int .i64 0)) ⟨g + 3, 1, none⟩ (strV [])) ⟨g + 3, 2, none⟩ (strV [])) ⟨g + 3, 3, none⟩ (.int .i64 0)) ⟨g + 3, 4, none⟩ (.slice none 0 0)) ⟨g + 3, 5, none⟩ (.slice none 0 0)) = W3 at *
      clear u0 v0 s0 u1 v1 s1 u2 v2 s2 u3 v3 s3 u4 v4 s4 u5 v5 s5 f0 h0 f1 h1 f2 h2 f3 h3 f4 h4 f5 h5
      have u0 : W3.cell? ⟨g + 2, 0, none⟩ = some (.int .i64 0) := z2.cell 0 rfl; have u1 : W3.cell? ⟨g + 2, 1, none⟩ = some (strV []) := z2.cell 1 rfl; have u2 : W3.cell? ⟨g + 2, 2, none⟩ = some (strV []) := z2.cell 2 rfl; have u3 : W3.cell? ⟨g + 2, 3, none⟩ = some (.int .i64 0) := z2.cell 3 rfl; have u4 : W3.cell? ⟨g + 2, 4, none⟩ = some (.slice none 0 0) := z2.cell 4 rfl; have u5 : W3.cell? ⟨g + 2, 5, none⟩ = some (.slice none 0 0) := z2.cell 5 rfl
      have v0 : W3.cell? ⟨g + 3, 0, none⟩ = some (.int .i64 0) := z3.cell 0 rfl; have v1 : W3.cell? ⟨g + 3, 1, none⟩ = some (strV []) := z3.cell 1 rfl; have v2 : W3.cell? ⟨g + 3, 2, none⟩ = some (strV []) := z3.cell 2 rfl; have v3 : W3.cell? ⟨g + 3, 3, none⟩ = some (.int .i64 0) := z3.cell 3 rfl; have v4 : W3.cell? ⟨g + 3, 4, none⟩ = some (.slice none 0 0) := z3.cell 4 rfl; have v5 : W3.cell? ⟨g + 3, 5, none⟩ = some (.slice none 0 0) := z3.cell 5 rfl
      refine bodyPost_ret (v := .tuple #[.agg #[.int .i64 0, strV [], strV [], .int .i64 0, .slice none 0 0, .slice none 0 0], .agg #[.int .i64 0, strV [], strV [], .int .i64 0, .slice none 0 0, .slice none 0 0], .bool false]) (by simp [results, Try.results56, go_sem, u0, v0, u1, v1, u2, v2, u3, v3, u4, v4, u5, v5]) rfl ?_
      have hW : Below w.heap.size w W3 := by rw [HGS.out]; exact hb6
      exact ppEndE_none HN.out hW
    | some z =>
    obtain ⟨hx, hy⟩ := z
    have HS : Hid (passP p q = some (⟨q.k, q.nm, q.to, hx⟩, ⟨p.k, p.nm, p.to, hy⟩)) := Lib.hid (by rw [passP_b HBP.out HBQ.out HBA.out H3.out.1 H3.out.2, hz]; rfl)
    have he := hes _ hz
    subst he
    clear hz
    clear hes hen
    have hb : Below w4.heap.size w4 ((w4.alloc (.cells #[.int .i64 hx.pos, .slice D m k, .slice D' m' k'] 49)).alloc (.cells #[.int .i64 hy.pos, .slice A n c, .slice A' n' c'] 49)) := two_box _ _ _
    have HBX := Lib.hid ((Blk.new w4 49 #[.int .i64 hx.pos, .slice D m k, .slice D' m' k']).alloc (.cells #[.int .i64 hy.pos, .slice A n c, .slice A' n' c'] 49))
    have hby := Blk.new (w4.alloc (.cells #[.int .i64 hx.pos, .slice D m k, .slice D' m' k'] 49)) 49 #[.int .i64 hy.pos, .slice A n c, .slice A' n' c']
    simp only [World.size_alloc] at hby
    have HBY := Lib.hid hby
    clear hby
    have HWw5 := Lib.hid (HWw4.out.trans (hb.mono HGw4.out)); have HGw5 := Lib.hid (Nat.le_trans HGw4.out hb.size)
    have HB0w5 := Lib.hid (HB0w4.out.below hb HB0w4.out.lt); have HB1w5 := Lib.hid (HB1w4.out.below hb HB1w4.out.lt); have HB2w5 := Lib.hid (HB2w4.out.below hb HB2w4.out.lt); have HB3w5 := Lib.hid (HB3w4.out.below hb HB3w4.out.lt); have HB4w5 := Lib.hid (HB4w4.out.below hb HB4w4.out.lt)
    have HG4 := Lib.hid (show g + 4 < w4.heap.size from HB4w4.out.lt)
    clear hb HWw4 HGw4 HB0w4 HB1w4 HB2w4 HB3w4 HB4w4
    go_upto_region 11 with fail
    generalize ((w4.alloc (.cells #[.int .i64 hx.pos, .slice D m k, .slice D' m' k'] 49)).alloc (.cells #[.int .i64 hy.pos, .slice A n c, .slice A' n' c'] 49)) = w5 at *
    generalize w4.heap.size = g5 at *
    have x0 : w5.cell? ⟨g, 0, none⟩ = some (.int .i64 p.k) := HB0w5.out.cell 0 rfl; have x1 : w5.cell? ⟨g, 1, none⟩ = some (strV p.nm) := HB0w5.out.cell 1 rfl; have x2 : w5.cell? ⟨g, 2, none⟩ = some (strV p.to) := HB0w5.out.cell 2 rfl; have x3 : w5.cell? ⟨g, 3, none⟩ = some (.int .i64 p.h.pos) := HB0w5.out.cell 3 rfl; have x4 : w5.cell? ⟨g, 4, none⟩ = some (.slice A n c) := HB0w5.out.cell 4 rfl; have x5 : w5.cell? ⟨g, 5, none⟩ = some (.slice A' n' c') := HB0w5.out.cell 5 rfl
    have y0 : w5.cell? ⟨g + 1, 0, none⟩ = some (.int .i64 q.k) := HB1w5.out.cell 0 rfl; have y1 : w5.cell? ⟨g + 1, 1, none⟩ = some (strV q.nm) := HB1w5.out.cell 1 rfl; have y2 : w5.cell? ⟨g + 1, 2, none⟩ = some (strV q.to) := HB1w5.out.cell 2 rfl; have y3 : w5.cell? ⟨g + 1, 3, none⟩ = some (.int .i64 q.h.pos) := HB1w5.out.cell 3 rfl; have y4 : w5.cell? ⟨g + 1, 4, none⟩ = some (.slice D m k) := HB1w5.out.cell 4 rfl; have y5 : w5.cell? ⟨g + 1, 5, none⟩ = some (.slice D' m' k') := HB1w5.out.cell 5 rfl
    have u0 : w5.cell? ⟨g + 2, 0, none⟩ = some (.int .i64 0) := HB2w5.out.cell 0 rfl; have u1 : w5.cell? ⟨g + 2, 1, none⟩ = some (strV []) := HB2w5.out.cell 1 rfl; have u2 : w5.cell? ⟨g + 2, 2, none⟩ = some (strV []) := HB2w5.out.cell 2 rfl; have u3 : w5.cell? ⟨g + 2, 3, none⟩ = some (.int .i64 0) := HB2w5.out.cell 3 rfl; have u4 : w5.cell? ⟨g + 2, 4, none⟩ = some (.slice none 0 0) := HB2w5.out.cell 4 rfl; have u5 : w5.cell? ⟨g + 2, 5, none⟩ = some (.slice none 0 0) := HB2w5.out.cell 5 rfl
    have v0 : w5.cell? ⟨g + 3, 0, none⟩ = some (.int .i64 0) := HB3w5.out.cell 0 rfl; have v1 : w5.cell? ⟨g + 3, 1, none⟩ = some (strV []) := HB3w5.out.cell 1 rfl; have v2 : w5.cell? ⟨g + 3, 2, none⟩ = some (strV []) := HB3w5.out.cell 2 rfl; have v3 : w5.cell? ⟨g + 3, 3, none⟩ = some (.int .i64 0) := HB3w5.out.cell 3 rfl; have v4 : w5.cell? ⟨g + 3, 4, none⟩ = some (.slice none 0 0) := HB3w5.out.cell 4 rfl; have v5 : w5.cell? ⟨g + 3, 5, none⟩ = some (.slice none 0 0) := HB3w5.out.cell 5 rfl
    have s0 : w5.cell? ⟨g + 4, 0, none⟩ = some (.int .i64 0) := HB4w5.out.cell 0 rfl; have s1 : w5.cell? ⟨g + 4, 1, none⟩ = some (strV []) := HB4w5.out.cell 1 rfl; have s2 : w5.cell? ⟨g + 4, 2, none⟩ = some (strV []) := HB4w5.out.cell 2 rfl; have s3 : w5.cell? ⟨g + 4, 3, none⟩ = some (.int .i64 0) := HB4w5.out.cell 3 rfl; have s4 : w5.cell? ⟨g + 4, 4, none⟩ = some (.slice none 0 0) := HB4w5.out.cell 4 rfl; have s5 : w5.cell? ⟨g + 4, 5, none⟩ = some (.slice none 0 0) := HB4w5.out.cell 5 rfl
    have f0 : w5.frozen? ⟨g + 2, 0, none⟩ = false := HB2w5.out.frozen 0; have h0 : w5.frozen? ⟨g + 3, 0, none⟩ = false := HB3w5.out.frozen 0; have f1 : w5.frozen? ⟨g + 2, 1, none⟩ = false := HB2w5.out.frozen 1; have h1 : w5.frozen? ⟨g + 3, 1, none⟩ = false := HB3w5.out.frozen 1; have f2 : w5.frozen? ⟨g + 2, 2, none⟩ = false := HB2w5.out.frozen 2; have h2 : w5.frozen? ⟨g + 3, 2, none⟩ = false := HB3w5.out.frozen 2; have f3 : w5.frozen? ⟨g + 2, 3, none⟩ = false := HB2w5.out.frozen 3; have h3 : w5.frozen? ⟨g + 3, 3, none⟩ = false := HB3w5.out.frozen 3; have f4 : w5.frozen? ⟨g + 2, 4, none⟩ = false := HB2w5.out.frozen 4; have h4 : w5.frozen? ⟨g + 3, 4, none⟩ = false := HB3w5.out.frozen 4; have f5 : w5.frozen? ⟨g + 2, 5, none⟩ = false := HB2w5.out.frozen 5; have h5 : w5.frozen? ⟨g + 3, 5, none⟩ = false := HB3w5.out.frozen 5
    have ne5 := HG4.out
    have a0 : w5.cell? ⟨g5, 0, none⟩ = some (.int .i64 hx.pos) := HBX.out.cell 0 rfl; have a1 : w5.cell? ⟨g5, 1, none⟩ = some (.slice D m k) := HBX.out.cell 1 rfl; have a2 : w5.cell? ⟨g5, 2, none⟩ = some (.slice D' m' k') := HBX.out.cell 2 rfl
    have b0 : w5.cell? ⟨g5 + 1, 0, none⟩ = some (.int .i64 hy.pos) := HBY.out.cell 0 rfl; have b1 : w5.cell? ⟨g5 + 1, 1, none⟩ = some (.slice A n c) := HBY.out.cell 1 rfl; have b2 : w5.cell? ⟨g5 + 1, 2, none⟩ = some (.slice A' n' c') := HBY.out.cell 2 rfl
    have k3 : w5.frozen? ⟨g, 3, none⟩ = false := HB0w5.out.frozen 3; have l3 : w5.frozen? ⟨g + 1, 3, none⟩ = false := HB1w5.out.frozen 3; have k4 : w5.frozen? ⟨g, 4, none⟩ = false := HB0w5.out.frozen 4; have l4 : w5.frozen? ⟨g + 1, 4, none⟩ = false := HB1w5.out.frozen 4; have k5 : w5.frozen? ⟨g, 5, none⟩ = false := HB0w5.out.frozen 5; have l5 : w5.frozen? ⟨g + 1, 5, none⟩ = false := HB1w5.out.frozen 5
    have HB0w6 := Lib.hid (three_set (b' := g + 1) (blk3 HB0w5.out (.int .i64 hy.pos) (.slice A n c) (.slice A' n' c')) (by omega) (.int .i64 hx.pos) (.slice D m k) (.slice D' m' k'))
    have HB1w6 := Lib.hid (blk3 (three_set (b' := g) HB1w5.out (by omega) (.int .i64 hy.pos) (.slice A n c) (.slice A' n' c')) (.int .i64 hx.pos) (.slice D m k) (.slice D' m' k'))
    have HB2w6 := Lib.hid (three_set (b' := g + 1) (three_set (b' := g) HB2w5.out (by omega) (.int .i64 hy.pos) (.slice A n c) (.slice A' n' c')) (by omega) (.int .i64 hx.pos) (.slice D m k) (.slice D' m' k'))
    have HB3w6 := Lib.hid (three_set (b' := g + 1) (three_set (b' := g) HB3w5.out (by omega) (.int .i64 hy.pos) (.slice A n c) (.slice A' n' c')) (by omega) (.int .i64 hx.pos) (.slice D m k) (.slice D' m' k'))
    have HB4w6 := Lib.hid (three_set (b' := g + 1) (three_set (b' := g) HB4w5.out (by omega) (.int .i64 hy.pos) (.slice A n c) (.slice A' n' c')) (by omega) (.int .i64 hx.pos) (.slice D m k) (.slice D' m' k'))
    have HWw6 := Lib.hid ((((((HWw5.out.setCell (p := ⟨g, 3, none⟩) (Nat.le_refl _) (.int .i64 hy.pos)).setCell (p := ⟨g, 4, none⟩) (Nat.le_refl _) (.slice A n c)).setCell (p := ⟨g, 5, none⟩) (Nat.le_refl _) (.slice A' n' c')).setCell (p := ⟨g + 1, 3, none⟩) (Nat.le_succ _) (.int .i64 hx.pos)).setCell (p := ⟨g + 1, 4, none⟩) (Nat.le_succ _) (.slice D m k)).setCell (p := ⟨g + 1, 5, none⟩) (Nat.le_succ _) (.slice D' m' k'))
    go_upto_region 15 with fail
    generalize (World.setCell (World.setCell (World.setCell (World.setCell (World.setCell (World.setCell w5 ⟨g, 3, none⟩ (.int .i64 hy.pos)) ⟨g, 4, none⟩ (.slice A n c)) ⟨g, 5, none⟩ (.slice A' n' c')) ⟨g + 1, 3, none⟩ (.int .i64 hx.pos)) ⟨g + 1, 4, none⟩ (.slice D m k)) ⟨g + 1, 5, none⟩ (.slice D' m' k')) = w6 at *
    clear a0 b0 a1 b1 a2 b2 k3 l3 k4 l4 k5 l5
    clear x0 y0 u0 v0 s0 f0 h0 x1 y1 u1 v1 s1 f1 h1 x2 y2 u2 v2 s2 f2 h2 x3 y3 u3 v3 s3 f3 h3 x4 y4 u4 v4 s4 f4 h4 x5 y5 u5 v5 s5 f5 h5
    have x0 : w6.cell? ⟨g, 0, none⟩ = some (.int .i64 p.k) := HB0w6.out.cell 0 rfl; have x1 : w6.cell? ⟨g, 1, none⟩ = some (strV p.nm) := HB0w6.out.cell 1 rfl; have x2 : w6.cell? ⟨g, 2, none⟩ = some (strV p.to) := HB0w6.out.cell 2 rfl; have x3 : w6.cell? ⟨g, 3, none⟩ = some (.int .i64 hy.pos) := HB0w6.out.cell 3 rfl; have x4 : w6.cell? ⟨g, 4, none⟩ = some (.slice A n c) := HB0w6.out.cell 4 rfl; have x5 : w6.cell? ⟨g, 5, none⟩ = some (.slice A' n' c') := HB0w6.out.cell 5 rfl
    have y0 : w6.cell? ⟨g + 1, 0, none⟩ = some (.int .i64 q.k) := HB1w6.out.cell 0 rfl; have y1 : w6.cell? ⟨g + 1, 1, none⟩ = some (strV q.nm) := HB1w6.out.cell 1 rfl; have y2 : w6.cell? ⟨g + 1, 2, none⟩ = some (strV q.to) := HB1w6.out.cell 2 rfl; have y3 : w6.cell? ⟨g + 1, 3, none⟩ = some (.int .i64 hx.pos) := HB1w6.out.cell 3 rfl; have y4 : w6.cell? ⟨g + 1, 4, none⟩ = some (.slice D m k) := HB1w6.out.cell 4 rfl; have y5 : w6.cell? ⟨g + 1, 5, none⟩ = some (.slice D' m' k') := HB1w6.out.cell 5 rfl
    have u0 : w6.cell? ⟨g + 2, 0, none⟩ = some (.int .i64 0) := HB2w6.out.cell 0 rfl; have u1 : w6.cell? ⟨g + 2, 1, none⟩ = some (strV []) := HB2w6.out.cell 1 rfl; have u2 : w6.cell? ⟨g + 2, 2, none⟩ = some (strV []) := HB2w6.out.cell 2 rfl; have u3 : w6.cell? ⟨g + 2, 3, none⟩ = some (.int .i64 0) := HB2w6.out.cell 3 rfl; have u4 : w6.cell? ⟨g + 2, 4, none⟩ = some (.slice none 0 0) := HB2w6.out.cell 4 rfl; have u5 : w6.cell? ⟨g + 2, 5, none⟩ = some (.slice none 0 0) := HB2w6.out.cell 5 rfl
    have v0 : w6.cell? ⟨g + 3, 0, none⟩ = some (.int .i64 0) := HB3w6.out.cell 0 rfl; have v1 : w6.cell? ⟨g + 3, 1, none⟩ = some (strV []) := HB3w6.out.cell 1 rfl; have v2 : w6.cell? ⟨g + 3, 2, none⟩ = some (strV []) := HB3w6.out.cell 2 rfl; have v3 : w6.cell? ⟨g + 3, 3, none⟩ = some (.int .i64 0) := HB3w6.out.cell 3 rfl; have v4 : w6.cell? ⟨g + 3, 4, none⟩ = some (.slice none 0 0) := HB3w6.out.cell 4 rfl; have v5 : w6.cell? ⟨g + 3, 5, none⟩ = some (.slice none 0 0) := HB3w6.out.cell 5 rfl
    have s0 : w6.cell? ⟨g + 4, 0, none⟩ = some (.int .i64 0) := HB4w6.out.cell 0 rfl; have s1 : w6.cell? ⟨g + 4, 1, none⟩ = some (strV []) := HB4w6.out.cell 1 rfl; have s2 : w6.cell? ⟨g + 4, 2, none⟩ = some (strV []) := HB4w6.out.cell 2 rfl; have s3 : w6.cell? ⟨g + 4, 3, none⟩ = some (.int .i64 0) := HB4w6.out.cell 3 rfl; have s4 : w6.cell? ⟨g + 4, 4, none⟩ = some (.slice none 0 0) := HB4w6.out.cell 4 rfl; have s5 : w6.cell? ⟨g + 4, 5, none⟩ = some (.slice none 0 0) := HB4w6.out.cell 5 rfl
    have f0 : w6.frozen? ⟨g + 2, 0, none⟩ = false := HB2w6.out.frozen 0; have h0 : w6.frozen? ⟨g + 3, 0, none⟩ = false := HB3w6.out.frozen 0; have f1 : w6.frozen? ⟨g + 2, 1, none⟩ = false := HB2w6.out.frozen 1; have h1 : w6.frozen? ⟨g + 3, 1, none⟩ = false := HB3w6.out.frozen 1; have f2 : w6.frozen? ⟨g + 2, 2, none⟩ = false := HB2w6.out.frozen 2; have h2 : w6.frozen? ⟨g + 3, 2, none⟩ = false := HB3w6.out.frozen 2; have f3 : w6.frozen? ⟨g + 2, 3, none⟩ = false := HB2w6.out.frozen 3; have h3 : w6.frozen? ⟨g + 3, 3, none⟩ = false := HB3w6.out.frozen 3; have f4 : w6.frozen? ⟨g + 2, 4, none⟩ = false := HB2w6.out.frozen 4; have h4 : w6.frozen? ⟨g + 3, 4, none⟩ = false := HB3w6.out.frozen 4; have f5 : w6.frozen? ⟨g + 2, 5, none⟩ = false := HB2w6.out.frozen 5; have h5 : w6.frozen? ⟨g + 3, 5, none⟩ = false := HB3w6.out.frozen 5
    go_wp2_with fail
    go_region
    go_wp2_with fail
    obtain ⟨z2, z3⟩ := two_set6 HB2w6.out HB3w6.out (by omega) (.int .i64 q.k) (strV q.nm) (strV q.to) (.int .i64 hx.pos) (.slice D m k) (.slice D' m' k') (.int .i64 p.k) (strV p.nm) (strV p.to) (.int .i64 hy.pos) (.slice A n c) (.slice A' n' c')
    have hb6 := below_drewN (below_set12 (b := g + 2) (b' := g + 3) HWw6.out (by omega) (by omega) (.int .i64 q.k) (strV q.nm) (strV q.to) (.int .i64 hx.pos) (.slice D m k) (.slice D' m' k') (.int .i64 p.k) (strV p.nm) (strV p.to) (.int .i64 hy.pos) (.slice A n c) (.slice A' n' c')) 1
    have z2 := z2.drewN 1; have z3 := z3.drewN 1
    have hdr : ∀ W : World, W.drewN 1 = W.drew := fun _ => rfl
    rw [hdr] at hb6 z2 z3
    generalize World.drew (World.setCell (World.setCell (World.setCell (World.setCell (World.setCell (World.setCell (World.setCell (World.setCell (World.setCell (World.setCell (World.setCell (World.setCell w6 ⟨g + 2, 0, none⟩ (.int .i64 q.k)) ⟨g + 2, 1, none⟩ (strV q.nm)) ⟨g + 2, 2, none⟩ (strV q.to)) ⟨g + 2, 3, none⟩ (.int .i64 hx.pos)) ⟨g + 2, 4, none⟩ (.slice D m k)) ⟨g + 2, 5, none⟩ (.slice D' m' k')) ⟨g + 3, 0, none⟩ (.int .i64 p.k)) ⟨g + 3, 1, none⟩ (strV p.nm)) ⟨g + 3, 2, none⟩ (strV p.to)) ⟨g + 3, 3, none⟩ (.int .i64 hy.pos)) ⟨g + 3, 4, none⟩ (.slice A n c)) ⟨g + 3, 5, none⟩ (.slice A' n' c')) = W3 at *
    clear u0 v0 s0 u1 v1 s1 u2 v2 s2 u3 v3 s3 u4 v4 s4 u5 v5 s5 f0 h0 f1 h1 f2 h2 f3 h3 f4 h4 f5 h5
    have u0 : W3.cell? ⟨g + 2, 0, none⟩ = some (.int .i64 q.k) := z2.cell 0 rfl; have u1 : W3.cell? ⟨g + 2, 1, none⟩ = some (strV q.nm) := z2.cell 1 rfl; have u2 : W3.cell? ⟨g + 2, 2, none⟩ = some (strV q.to) := z2.cell 2 rfl; have u3 : W3.cell? ⟨g + 2, 3, none⟩ = some (.int .i64 hx.pos) := z2.cell 3 rfl; have u4 : W3.cell? ⟨g + 2, 4, none⟩ = some (.slice D m k) := z2.cell 4 rfl; have u5 : W3.cell? ⟨g + 2, 5, none⟩ = some (.slice D' m' k') := z2.cell 5 rfl
    have v0 : W3.cell? ⟨g + 3, 0, none⟩ = some (.int .i64 p.k) := z3.cell 0 rfl; have v1 : W3.cell? ⟨g + 3, 1, none⟩ = some (strV p.nm) := z3.cell 1 rfl; have v2 : W3.cell? ⟨g + 3, 2, none⟩ = some (strV p.to) := z3.cell 2 rfl; have v3 : W3.cell? ⟨g + 3, 3, none⟩ = some (.int .i64 hy.pos) := z3.cell 3 rfl; have v4 : W3.cell? ⟨g + 3, 4, none⟩ = some (.slice A n c) := z3.cell 4 rfl; have v5 : W3.cell? ⟨g + 3, 5, none⟩ = some (.slice A' n' c') := z3.cell 5 rfl
    refine bodyPost_ret (v := .tuple #[.agg #[.int .i64 q.k, strV q.nm, strV q.to, .int .i64 hx.pos, .slice D m k, .slice D' m' k'], .agg #[.int .i64 p.k, strV p.nm, strV p.to, .int .i64 hy.pos, .slice A n c, .slice A' n' c'], .bool true]) (by simp [results, Try.results56, go_sem, u0, v0, u1, v1, u2, v2, u3, v3, u4, v4, u5, v5]) rfl ?_
    have hW : Below w.heap.size w W3 := by rw [HGS.out]; exact hb6
    rw [HS.out]; exact ppEndE_some hW
  obtain ⟨lp, hlp⟩ : ∃ b, (p.k == 3 || p.k == 4) = b := ⟨_, rfl⟩
  obtain ⟨lq, hlq⟩ : ∃ b, (q.k == 3 || q.k == 4) = b := ⟨_, rfl⟩
  have HLP := Lib.hid hlp; have HLQ := Lib.hid hlq; have H3 := Lib.hid h3
  clear hlp hlq
  have e3 : (p.k == 3) = false ∨ ((p.k == 3) = true ∧ (q.k == 3) = false) := by
    by_cases h : p.k = 3
    · exact .inr ⟨by simpa using h, by simpa using fun h' => h3 ⟨h, h'⟩⟩
    · exact .inl (by simpa using h)
  clear h3
  have HE3 := Lib.hid e3; clear e3
  rcases HE3.out with e1 | ⟨e1, e2⟩
  all_goals
    go_wp2_with fail
    clear e1
    try clear e2
    clear x0 y0 u0 v0 s0 f0 h0 x1 y1 u1 v1 s1 f1 h1 x2 y2 u2 v2 s2 f2 h2 x3 y3 u3 v3 s3 f3 h3 x4 y4 u4 v4 s4 f4 h4 x5 y5 u5 v5 s5 f5 h5
    refine (refLines A n c A' n' c' p w3 lp HLP.out).mono ?_
    rintro e w4 ⟨rfl, hb⟩
    have HVw4 := Lib.hid (HVw3.out.mv hb); have GVw4 := Lib.hid (GVw3.out.mv hb); clear HVw3 GVw3
    have HWw4 := Lib.hid (HWw3.out.trans (hb.mono HGw3.out)); have HGw4 := Lib.hid (Nat.le_trans HGw3.out hb.size)
    have HB0w4 := Lib.hid (HB0w3.out.below hb HB0w3.out.lt); have HB1w4 := Lib.hid (HB1w3.out.below hb HB1w3.out.lt); have HB2w4 := Lib.hid (HB2w3.out.below hb HB2w3.out.lt); have HB3w4 := Lib.hid (HB3w3.out.below hb HB3w3.out.lt); have HB4w4 := Lib.hid (HB4w3.out.below hb HB4w3.out.lt)
    clear hb HWw3 HGw3 HB0w3 HB1w3 HB2w3 HB3w3 HB4w3
    have x0 : w4.cell? ⟨g, 0, none⟩ = some (.int .i64 p.k) := HB0w4.out.cell 0 rfl; have x1 : w4.cell? ⟨g, 1, none⟩ = some (strV p.nm) := HB0w4.out.cell 1 rfl; have x2 : w4.cell? ⟨g, 2, none⟩ = some (strV p.to) := HB0w4.out.cell 2 rfl; have x3 : w4.cell? ⟨g, 3, none⟩ = some (.int .i64 p.h.pos) := HB0w4.out.cell 3 rfl; have x4 : w4.cell? ⟨g, 4, none⟩ = some (.slice A n c) := HB0w4.out.cell 4 rfl; have x5 : w4.cell? ⟨g, 5, none⟩ = some (.slice A' n' c') := HB0w4.out.cell 5 rfl
    have y0 : w4.cell? ⟨g + 1, 0, none⟩ = some (.int .i64 q.k) := HB1w4.out.cell 0 rfl; have y1 : w4.cell? ⟨g + 1, 1, none⟩ = some (strV q.nm) := HB1w4.out.cell 1 rfl; have y2 : w4.cell? ⟨g + 1, 2, none⟩ = some (strV q.to) := HB1w4.out.cell 2 rfl; have y3 : w4.cell? ⟨g + 1, 3, none⟩ = some (.int .i64 q.h.pos) := HB1w4.out.cell 3 rfl; have y4 : w4.cell? ⟨g + 1, 4, none⟩ = some (.slice D m k) := HB1w4.out.cell 4 rfl; have y5 : w4.cell? ⟨g + 1, 5, none⟩ = some (.slice D' m' k') := HB1w4.out.cell 5 rfl
    have u0 : w4.cell? ⟨g + 2, 0, none⟩ = some (.int .i64 0) := HB2w4.out.cell 0 rfl; have u1 : w4.cell? ⟨g + 2, 1, none⟩ = some (strV []) := HB2w4.out.cell 1 rfl; have u2 : w4.cell? ⟨g + 2, 2, none⟩ = some (strV []) := HB2w4.out.cell 2 rfl; have u3 : w4.cell? ⟨g + 2, 3, none⟩ = some (.int .i64 0) := HB2w4.out.cell 3 rfl; have u4 : w4.cell? ⟨g + 2, 4, none⟩ = some (.slice none 0 0) := HB2w4.out.cell 4 rfl; have u5 : w4.cell? ⟨g + 2, 5, none⟩ = some (.slice none 0 0) := HB2w4.out.cell 5 rfl
    have v0 : w4.cell? ⟨g + 3, 0, none⟩ = some (.int .i64 0) := HB3w4.out.cell 0 rfl; have v1 : w4.cell? ⟨g + 3, 1, none⟩ = some (strV []) := HB3w4.out.cell 1 rfl; have v2 : w4.cell? ⟨g + 3, 2, none⟩ = some (strV []) := HB3w4.out.cell 2 rfl; have v3 : w4.cell? ⟨g + 3, 3, none⟩ = some (.int .i64 0) := HB3w4.out.cell 3 rfl; have v4 : w4.cell? ⟨g + 3, 4, none⟩ = some (.slice none 0 0) := HB3w4.out.cell 4 rfl; have v5 : w4.cell? ⟨g + 3, 5, none⟩ = some (.slice none 0 0) := HB3w4.out.cell 5 rfl
    have s0 : w4.cell? ⟨g + 4, 0, none⟩ = some (.int .i64 0) := HB4w4.out.cell 0 rfl; have s1 : w4.cell? ⟨g + 4, 1, none⟩ = some (strV []) := HB4w4.out.cell 1 rfl; have s2 : w4.cell? ⟨g + 4, 2, none⟩ = some (strV []) := HB4w4.out.cell 2 rfl; have s3 : w4.cell? ⟨g + 4, 3, none⟩ = some (.int .i64 0) := HB4w4.out.cell 3 rfl; have s4 : w4.cell? ⟨g + 4, 4, none⟩ = some (.slice none 0 0) := HB4w4.out.cell 4 rfl; have s5 : w4.cell? ⟨g + 4, 5, none⟩ = some (.slice none 0 0) := HB4w4.out.cell 5 rfl
    have f0 : w4.frozen? ⟨g + 2, 0, none⟩ = false := HB2w4.out.frozen 0; have h0 : w4.frozen? ⟨g + 3, 0, none⟩ = false := HB3w4.out.frozen 0; have f1 : w4.frozen? ⟨g + 2, 1, none⟩ = false := HB2w4.out.frozen 1; have h1 : w4.frozen? ⟨g + 3, 1, none⟩ = false := HB3w4.out.frozen 1; have f2 : w4.frozen? ⟨g + 2, 2, none⟩ = false := HB2w4.out.frozen 2; have h2 : w4.frozen? ⟨g + 3, 2, none⟩ = false := HB3w4.out.frozen 2; have f3 : w4.frozen? ⟨g + 2, 3, none⟩ = false := HB2w4.out.frozen 3; have h3 : w4.frozen? ⟨g + 3, 3, none⟩ = false := HB3w4.out.frozen 3; have f4 : w4.frozen? ⟨g + 2, 4, none⟩ = false := HB2w4.out.frozen 4; have h4 : w4.frozen? ⟨g + 3, 4, none⟩ = false := HB3w4.out.frozen 4; have f5 : w4.frozen? ⟨g + 2, 5, none⟩ = false := HB2w4.out.frozen 5; have h5 : w4.frozen? ⟨g + 3, 5, none⟩ = false := HB3w4.out.frozen 5
    go_wp2_with fail
    clear x0 y0 u0 v0 s0 f0 h0 x1 y1 u1 v1 s1 f1 h1 x2 y2 u2 v2 s2 f2 h2 x3 y3 u3 v3 s3 f3 h3 x4 y4 u4 v4 s4 f4 h4 x5 y5 u5 v5 s5 f5 h5
    refine (refLines D m k D' m' k' q w4 lq HLQ.out).mono ?_
    rintro e w5 ⟨rfl, hb⟩
    have HVw5 := Lib.hid (HVw4.out.mv hb); have GVw5 := Lib.hid (GVw4.out.mv hb); clear HVw4 GVw4
    have HWw5 := Lib.hid (HWw4.out.trans (hb.mono HGw4.out)); have HGw5 := Lib.hid (Nat.le_trans HGw4.out hb.size)
    have HB0w5 := Lib.hid (HB0w4.out.below hb HB0w4.out.lt); have HB1w5 := Lib.hid (HB1w4.out.below hb HB1w4.out.lt); have HB2w5 := Lib.hid (HB2w4.out.below hb HB2w4.out.lt); have HB3w5 := Lib.hid (HB3w4.out.below hb HB3w4.out.lt); have HB4w5 := Lib.hid (HB4w4.out.below hb HB4w4.out.lt)
    clear hb HWw4 HGw4 HB0w4 HB1w4 HB2w4 HB3w4 HB4w4
    have x0 : w5.cell? ⟨g, 0, none⟩ = some (.int .i64 p.k) := HB0w5.out.cell 0 rfl; have x1 : w5.cell? ⟨g, 1, none⟩ = some (strV p.nm) := HB0w5.out.cell 1 rfl; have x2 : w5.cell? ⟨g, 2, none⟩ = some (strV p.to) := HB0w5.out.cell 2 rfl; have x3 : w5.cell? ⟨g, 3, none⟩ = some (.int .i64 p.h.pos) := HB0w5.out.cell 3 rfl; have x4 : w5.cell? ⟨g, 4, none⟩ = some (.slice A n c) := HB0w5.out.cell 4 rfl; have x5 : w5.cell? ⟨g, 5, none⟩ = some (.slice A' n' c') := HB0w5.out.cell 5 rfl
    have y0 : w5.cell? ⟨g + 1, 0, none⟩ = some (.int .i64 q.k) := HB1w5.out.cell 0 rfl; have y1 : w5.cell? ⟨g + 1, 1, none⟩ = some (strV q.nm) := HB1w5.out.cell 1 rfl; have y2 : w5.cell? ⟨g + 1, 2, none⟩ = some (strV q.to) := HB1w5.out.cell 2 rfl; have y3 : w5.cell? ⟨g + 1, 3, none⟩ = some (.int .i64 q.h.pos) := HB1w5.out.cell 3 rfl; have y4 : w5.cell? ⟨g + 1, 4, none⟩ = some (.slice D m k) := HB1w5.out.cell 4 rfl; have y5 : w5.cell? ⟨g + 1, 5, none⟩ = some (.slice D' m' k') := HB1w5.out.cell 5 rfl
    have u0 : w5.cell? ⟨g + 2, 0, none⟩ = some (.int .i64 0) := HB2w5.out.cell 0 rfl; have u1 : w5.cell? ⟨g + 2, 1, none⟩ = some (strV []) := HB2w5.out.cell 1 rfl; have u2 : w5.cell? ⟨g + 2, 2, none⟩ = some (strV []) := HB2w5.out.cell 2 rfl; have u3 : w5.cell? ⟨g + 2, 3, none⟩ = some (.int .i64 0) := HB2w5.out.cell 3 rfl; have u4 : w5.cell? ⟨g + 2, 4, none⟩ = some (.slice none 0 0) := HB2w5.out.cell 4 rfl; have u5 : w5.cell? ⟨g + 2, 5, none⟩ = some (.slice none 0 0) := HB2w5.out.cell 5 rfl
    have v0 : w5.cell? ⟨g + 3, 0, none⟩ = some (.int .i64 0) := HB3w5.out.cell 0 rfl; have v1 : w5.cell? ⟨g + 3, 1, none⟩ = some (strV []) := HB3w5.out.cell 1 rfl; have v2 : w5.cell? ⟨g + 3, 2, none⟩ = some (strV []) := HB3w5.out.cell 2 rfl; have v3 : w5.cell? ⟨g + 3, 3, none⟩ = some (.int .i64 0) := HB3w5.out.cell 3 rfl; have v4 : w5.cell? ⟨g + 3, 4, none⟩ = some (.slice none 0 0) := HB3w5.out.cell 4 rfl; have v5 : w5.cell? ⟨g + 3, 5, none⟩ = some (.slice none 0 0) := HB3w5.out.cell 5 rfl
    have s0 : w5.cell? ⟨g + 4, 0, none⟩ = some (.int .i64 0) := HB4w5.out.cell 0 rfl; have s1 : w5.cell? ⟨g + 4, 1, none⟩ = some (strV []) := HB4w5.out.cell 1 rfl; have s2 : w5.cell? ⟨g + 4, 2, none⟩ = some (strV []) := HB4w5.out.cell 2 rfl; have s3 : w5.cell? ⟨g + 4, 3, none⟩ = some (.int .i64 0) := HB4w5.out.cell 3 rfl; have s4 : w5.cell? ⟨g + 4, 4, none⟩ = some (.slice none 0 0) := HB4w5.out.cell 4 rfl; have s5 : w5.cell? ⟨g + 4, 5, none⟩ = some (.slice none 0 0) := HB4w5.out.cell 5 rfl
    have f0 : w5.frozen? ⟨g + 2, 0, none⟩ = false := HB2w5.out.frozen 0; have h0 : w5.frozen? ⟨g + 3, 0, none⟩ = false := HB3w5.out.frozen 0; have f1 : w5.frozen? ⟨g + 2, 1, none⟩ = false := HB2w5.out.frozen 1; have h1 : w5.frozen? ⟨g + 3, 1, none⟩ = false := HB3w5.out.frozen 1; have f2 : w5.frozen? ⟨g + 2, 2, none⟩ = false := HB2w5.out.frozen 2; have h2 : w5.frozen? ⟨g + 3, 2, none⟩ = false := HB3w5.out.frozen 2; have f3 : w5.frozen? ⟨g + 2, 3, none⟩ = false := HB2w5.out.frozen 3; have h3 : w5.frozen? ⟨g + 3, 3, none⟩ = false := HB3w5.out.frozen 3; have f4 : w5.frozen? ⟨g + 2, 4, none⟩ = false := HB2w5.out.frozen 4; have h4 : w5.frozen? ⟨g + 3, 4, none⟩ = false := HB3w5.out.frozen 4; have f5 : w5.frozen? ⟨g + 2, 5, none⟩ = false := HB2w5.out.frozen 5; have h5 : w5.frozen? ⟨g + 3, 5, none⟩ = false := HB3w5.out.frozen 5
    have hs4 := HB4w5.out.lt
    by_cases ho : p.k = 2 ∧ (q.k = 3 ∨ q.k = 4) ∧ q.nm = p.to
    · have e4 : (p.k == 2) = true := by simpa using ho.1
      obtain rfl : lq = true := by rw [← HLQ.out]; rcases ho.2.1 with h | h <;> simp [h]
      have e5 : (q.nm == p.to) = true := by simpa using ho.2.2
      have l1 : w5.frozen? ⟨g + 1, 1, none⟩ = false := HB1w5.out.frozen 1
      have HS : Hid (passP p q = some (⟨q.k, p.nm, q.to, q.h⟩, p)) := Lib.hid (passP_o HBP.out HBQ.out HBA.out ho.1 ho.2.1 ho.2.2)
      clear ho
      have HB1w6 := Lib.hid (show Blk (World.setCell w5 ⟨g + 1, 1, none⟩ (strV p.nm)) (g + 1) 51 #[.int .i64 q.k, strV p.nm, strV q.to, .int .i64 q.h.pos, .slice D m k, .slice D' m' k'] from HB1w5.out.set 1 (strV p.nm))
      have HB0w6 := Lib.hid (HB0w5.out.set_ne (show g ≠ g + 1 from by omega) 1 (strV p.nm))
      have HB2w6 := Lib.hid (HB2w5.out.set_ne (show g + 2 ≠ g + 1 from by omega) 1 (strV p.nm))
      have HB3w6 := Lib.hid (HB3w5.out.set_ne (show g + 3 ≠ g + 1 from by omega) 1 (strV p.nm))
      have HB4w6 := Lib.hid (HB4w5.out.set_ne (show g + 4 ≠ g + 1 from by omega) 1 (strV p.nm))
      have HWw6 := Lib.hid (HWw5.out.setCell (p := ⟨g + 1, 1, none⟩) (Nat.le_succ _) (strV p.nm))
      go_upto_region 20 with fail
      generalize (World.setCell w5 ⟨g + 1, 1, none⟩ (strV p.nm)) = w6 at *
      clear l1
      clear x0 y0 u0 v0 s0 f0 h0 x1 y1 u1 v1 s1 f1 h1 x2 y2 u2 v2 s2 f2 h2 x3 y3 u3 v3 s3 f3 h3 x4 y4 u4 v4 s4 f4 h4 x5 y5 u5 v5 s5 f5 h5
      have x0 : w6.cell? ⟨g, 0, none⟩ = some (.int .i64 p.k) := HB0w6.out.cell 0 rfl; have x1 : w6.cell? ⟨g, 1, none⟩ = some (strV p.nm) := HB0w6.out.cell 1 rfl; have x2 : w6.cell? ⟨g, 2, none⟩ = some (strV p.to) := HB0w6.out.cell 2 rfl; have x3 : w6.cell? ⟨g, 3, none⟩ = some (.int .i64 p.h.pos) := HB0w6.out.cell 3 rfl; have x4 : w6.cell? ⟨g, 4, none⟩ = some (.slice A n c) := HB0w6.out.cell 4 rfl; have x5 : w6.cell? ⟨g, 5, none⟩ = some (.slice A' n' c') := HB0w6.out.cell 5 rfl
      have y0 : w6.cell? ⟨g + 1, 0, none⟩ = some (.int .i64 q.k) := HB1w6.out.cell 0 rfl; have y1 : w6.cell? ⟨g + 1, 1, none⟩ = some (strV p.nm) := HB1w6.out.cell 1 rfl; have y2 : w6.cell? ⟨g + 1, 2, none⟩ = some (strV q.to) := HB1w6.out.cell 2 rfl; have y3 : w6.cell? ⟨g + 1, 3, none⟩ = some (.int .i64 q.h.pos) := HB1w6.out.cell 3 rfl; have y4 : w6.cell? ⟨g + 1, 4, none⟩ = some (.slice D m k) := HB1w6.out.cell 4 rfl; have y5 : w6.cell? ⟨g + 1, 5, none⟩ = some (.slice D' m' k') := HB1w6.out.cell 5 rfl
      have u0 : w6.cell? ⟨g + 2, 0, none⟩ = some (.int .i64 0) := HB2w6.out.cell 0 rfl; have u1 : w6.cell? ⟨g + 2, 1, none⟩ = some (strV []) := HB2w6.out.cell 1 rfl; have u2 : w6.cell? ⟨g + 2, 2, none⟩ = some (strV []) := HB2w6.out.cell 2 rfl; have u3 : w6.cell? ⟨g + 2, 3, none⟩ = some (.int .i64 0) := HB2w6.out.cell 3 rfl; have u4 : w6.cell? ⟨g + 2, 4, none⟩ = some (.slice none 0 0) := HB2w6.out.cell 4 rfl; have u5 : w6.cell? ⟨g + 2, 5, none⟩ = some (.slice none 0 0) := HB2w6.out.cell 5 rfl
      have v0 : w6.cell? ⟨g + 3, 0, none⟩ = some (.int .i64 0) := HB3w6.out.cell 0 rfl; have v1 : w6.cell? ⟨g + 3, 1, none⟩ = some (strV []) := HB3w6.out.cell 1 rfl; have v2 : w6.cell? ⟨g + 3, 2, none⟩ = some (strV []) := HB3w6.out.cell 2 rfl; have v3 : w6.cell? ⟨g + 3, 3, none⟩ = some (.int .i64 0) := HB3w6.out.cell 3 rfl; have v4 : w6.cell? ⟨g + 3, 4, none⟩ = some (.slice none 0 0) := HB3w6.out.cell 4 rfl; have v5 : w6.cell? ⟨g + 3, 5, none⟩ = some (.slice none 0 0) := HB3w6.out.cell 5 rfl
      have s0 : w6.cell? ⟨g + 4, 0, none⟩ = some (.int .i64 0) := HB4w6.out.cell 0 rfl; have s1 : w6.cell? ⟨g + 4, 1, none⟩ = some (strV []) := HB4w6.out.cell 1 rfl; have s2 : w6.cell? ⟨g + 4, 2, none⟩ = some (strV []) := HB4w6.out.cell 2 rfl; have s3 : w6.cell? ⟨g + 4, 3, none⟩ = some (.int .i64 0) := HB4w6.out.cell 3 rfl; have s4 : w6.cell? ⟨g + 4, 4, none⟩ = some (.slice none 0 0) := HB4w6.out.cell 4 rfl; have s5 : w6.cell? ⟨g + 4, 5, none⟩ = some (.slice none 0 0) := HB4w6.out.cell 5 rfl
      have f0 : w6.frozen? ⟨g + 2, 0, none⟩ = false := HB2w6.out.frozen 0; have h0 : w6.frozen? ⟨g + 3, 0, none⟩ = false := HB3w6.out.frozen 0; have f1 : w6.frozen? ⟨g + 2, 1, none⟩ = false := HB2w6.out.frozen 1; have h1 : w6.frozen? ⟨g + 3, 1, none⟩ = false := HB3w6.out.frozen 1; have f2 : w6.frozen? ⟨g + 2, 2, none⟩ = false := HB2w6.out.frozen 2; have h2 : w6.frozen? ⟨g + 3, 2, none⟩ = false := HB3w6.out.frozen 2; have f3 : w6.frozen? ⟨g + 2, 3, none⟩ = false := HB2w6.out.frozen 3; have h3 : w6.frozen? ⟨g + 3, 3, none⟩ = false := HB3w6.out.frozen 3; have f4 : w6.frozen? ⟨g + 2, 4, none⟩ = false := HB2w6.out.frozen 4; have h4 : w6.frozen? ⟨g + 3, 4, none⟩ = false := HB3w6.out.frozen 4; have f5 : w6.frozen? ⟨g + 2, 5, none⟩ = false := HB2w6.out.frozen 5; have h5 : w6.frozen? ⟨g + 3, 5, none⟩ = false := HB3w6.out.frozen 5
      go_wp2_with fail
      go_region
      go_wp2_with fail
      obtain ⟨z2, z3⟩ := two_set6 HB2w6.out HB3w6.out (by omega) (.int .i64 q.k) (strV p.nm) (strV q.to) (.int .i64 q.h.pos) (.slice D m k) (.slice D' m' k') (.int .i64 p.k) (strV p.nm) (strV p.to) (.int .i64 p.h.pos) (.slice A n c) (.slice A' n' c')
      have hb6 := below_drewN (below_set12 (b := g + 2) (b' := g + 3) HWw6.out (by omega) (by omega) (.int .i64 q.k) (strV p.nm) (strV q.to) (.int .i64 q.h.pos) (.slice D m k) (.slice D' m' k') (.int .i64 p.k) (strV p.nm) (strV p.to) (.int .i64 p.h.pos) (.slice A n c) (.slice A' n' c')) 1
      have z2 := z2.drewN 1; have z3 := z3.drewN 1
      have hdr : ∀ W : World, W.drewN 1 = W.drew := fun _ => rfl
      rw [hdr] at hb6 z2 z3
      generalize World.drew (World.setCell (World.setCell (World.setCell (World.setCell (World.setCell (World.setCell (World.setCell (World.setCell (World.setCell (World.setCell (World.setCell (World.setCell w6 ⟨g + 2, 0, none⟩ (.int .i64 q.k)) ⟨g + 2, 1, none⟩ (strV p.nm)) ⟨g + 2, 2, none⟩ (strV q.to)) ⟨g + 2, 3, none⟩ (.int .i64 q.h.pos)) ⟨g + 2, 4, none⟩ (.slice D m k)) ⟨g + 2, 5, none⟩ (.slice D' m' k')) ⟨g + 3, 0, none⟩ (.int .i64 p.k)) ⟨g + 3, 1, none⟩ (strV p.nm)) ⟨g + 3, 2, none⟩ (strV p.to)) ⟨g + 3, 3, none⟩ (.int .i64 p.h.pos)) ⟨g + 3, 4, none⟩ (.slice A n c)) ⟨g + 3, 5, none⟩ (.slice A' n' c')) = W3 at *
      clear u0 v0 s0 u1 v1 s1 u2 v2 s2 u3 v3 s3 u4 v4 s4 u5 v5 s5 f0 h0 f1 h1 f2 h2 f3 h3 f4 h4 f5 h5
      have u0 : W3.cell? ⟨g + 2, 0, none⟩ = some (.int .i64 q.k) := z2.cell 0 rfl; have u1 : W3.cell? ⟨g + 2, 1, none⟩ = some (strV p.nm) := z2.cell 1 rfl; have u2 : W3.cell? ⟨g + 2, 2, none⟩ = some (strV q.to) := z2.cell 2 rfl; have u3 : W3.cell? ⟨g + 2, 3, none⟩ = some (.int .i64 q.h.pos) := z2.cell 3 rfl; have u4 : W3.cell? ⟨g + 2, 4, none⟩ = some (.slice D m k) := z2.cell 4 rfl; have u5 : W3.cell? ⟨g + 2, 5, none⟩ = some (.slice D' m' k') := z2.cell 5 rfl
      have v0 : W3.cell? ⟨g + 3, 0, none⟩ = some (.int .i64 p.k) := z3.cell 0 rfl; have v1 : W3.cell? ⟨g + 3, 1, none⟩ = some (strV p.nm) := z3.cell 1 rfl; have v2 : W3.cell? ⟨g + 3, 2, none⟩ = some (strV p.to) := z3.cell 2 rfl; have v3 : W3.cell? ⟨g + 3, 3, none⟩ = some (.int .i64 p.h.pos) := z3.cell 3 rfl; have v4 : W3.cell? ⟨g + 3, 4, none⟩ = some (.slice A n c) := z3.cell 4 rfl; have v5 : W3.cell? ⟨g + 3, 5, none⟩ = some (.slice A' n' c') := z3.cell 5 rfl
      refine bodyPost_ret (v := .tuple #[.agg #[.int .i64 q.k, strV p.nm, strV q.to, .int .i64 q.h.pos, .slice D m k, .slice D' m' k'], .agg #[.int .i64 p.k, strV p.nm, strV p.to, .int .i64 p.h.pos, .slice A n c, .slice A' n' c'], .bool true]) (by simp [results, Try.results56, go_sem, u0, v0, u1, v1, u2, v2, u3, v3, u4, v4, u5, v5]) rfl ?_
      have hW : Below w.heap.size w W3 := by rw [HGS.out]; exact hb6
      rw [HS.out]; exact ppEndE_some hW
    by_cases hi : q.k = 2 ∧ (p.k = 3 ∨ p.k = 4) ∧ p.nm = q.nm
    · have e4 : (q.k == 2) = true := by simpa using hi.1
      obtain rfl : lp = true := by rw [← HLP.out]; rcases hi.2.1 with h | h <;> simp [h]
      have e5 : (p.nm == q.nm) = true := by simpa using hi.2.2
      have e6 : (p.k == 2) = false := by rw [beq_eq_false_iff_ne]; rcases hi.2.1 with h | h <;> omega
      have l1 : w5.frozen? ⟨g, 1, none⟩ = false := HB0w5.out.frozen 1
      have HS : Hid (passP p q = some (q, ⟨p.k, q.to, p.to, p.h⟩)) := Lib.hid (passP_i HBP.out HBQ.out HBA.out hi.1 hi.2.1 hi.2.2)
      clear hi ho
      have HB0w6 := Lib.hid (show Blk (World.setCell w5 ⟨g, 1, none⟩ (strV q.to)) g 51 #[.int .i64 p.k, strV q.to, strV p.to, .int .i64 p.h.pos, .slice A n c, .slice A' n' c'] from HB0w5.out.set 1 (strV q.to))
      have HB1w6 := Lib.hid (HB1w5.out.set_ne (show g + 1 ≠ g from by omega) 1 (strV q.to))
      have HB2w6 := Lib.hid (HB2w5.out.set_ne (show g + 2 ≠ g from by omega) 1 (strV q.to))
      have HB3w6 := Lib.hid (HB3w5.out.set_ne (show g + 3 ≠ g from by omega) 1 (strV q.to))
      have HB4w6 := Lib.hid (HB4w5.out.set_ne (show g + 4 ≠ g from by omega) 1 (strV q.to))
      have HWw6 := Lib.hid (HWw5.out.setCell (p := ⟨g, 1, none⟩) (Nat.le_refl _) (strV q.to))
      go_upto_region 23 with fail
      generalize (World.setCell w5 ⟨g, 1, none⟩ (strV q.to)) = w6 at *
      clear l1
      clear x0 y0 u0 v0 s0 f0 h0 x1 y1 u1 v1 s1 f1 h1 x2 y2 u2 v2 s2 f2 h2 x3 y3 u3 v3 s3 f3 h3 x4 y4 u4 v4 s4 f4 h4 x5 y5 u5 v5 s5 f5 h5
      have x0 : w6.cell? ⟨g, 0, none⟩ = some (.int .i64 p.k) := HB0w6.out.cell 0 rfl; have x1 : w6.cell? ⟨g, 1, none⟩ = some (strV q.to) := HB0w6.out.cell 1 rfl; have x2 : w6.cell? ⟨g, 2, none⟩ = some (strV p.to) := HB0w6.out.cell 2 rfl; have x3 : w6.cell? ⟨g, 3, none⟩ = some (.int .i64 p.h.pos) := HB0w6.out.cell 3 rfl; have x4 : w6.cell? ⟨g, 4, none⟩ = some (.slice A n c) := HB0w6.out.cell 4 rfl; have x5 : w6.cell? ⟨g, 5, none⟩ = some (.slice A' n' c') := HB0w6.out.cell 5 rfl
      have y0 : w6.cell? ⟨g + 1, 0, none⟩ = some (.int .i64 q.k) := HB1w6.out.cell 0 rfl; have y1 : w6.cell? ⟨g + 1, 1, none⟩ = some (strV q.nm) := HB1w6.out.cell 1 rfl; have y2 : w6.cell? ⟨g + 1, 2, none⟩ = some (strV q.to) := HB1w6.out.cell 2 rfl; have y3 : w6.cell? ⟨g + 1, 3, none⟩ = some (.int .i64 q.h.pos) := HB1w6.out.cell 3 rfl; have y4 : w6.cell? ⟨g + 1, 4, none⟩ = some (.slice D m k) := HB1w6.out.cell 4 rfl; have y5 : w6.cell? ⟨g + 1, 5, none⟩ = some (.slice D' m' k') := HB1w6.out.cell 5 rfl
      have u0 : w6.cell? ⟨g + 2, 0, none⟩ = some (.int .i64 0) := HB2w6.out.cell 0 rfl; have u1 : w6.cell? ⟨g + 2, 1, none⟩ = some (strV []) := HB2w6.out.cell 1 rfl; have u2 : w6.cell? ⟨g + 2, 2, none⟩ = some (strV []) := HB2w6.out.cell 2 rfl; have u3 : w6.cell? ⟨g + 2, 3, none⟩ = some (.int .i64 0) := HB2w6.out.cell 3 rfl; have u4 : w6.cell? ⟨g + 2, 4, none⟩ = some (.slice none 0 0) := HB2w6.out.cell 4 rfl; have u5 : w6.cell? ⟨g + 2, 5, none⟩ = some (.slice none 0 0) := HB2w6.out.cell 5 rfl
      have v0 : w6.cell? ⟨g + 3, 0, none⟩ = some (.int .i64 0) := HB3w6.out.cell 0 rfl; have v1 : w6.cell? ⟨g + 3, 1, none⟩ = some (strV []) := HB3w6.out.cell 1 rfl; have v2 : w6.cell? ⟨g + 3, 2, none⟩ = some (strV []) := HB3w6.out.cell 2 rfl; have v3 : w6.cell? ⟨g + 3, 3, none⟩ = some (.int .i64 0) := HB3w6.out.cell 3 rfl; have v4 : w6.cell? ⟨g + 3, 4, none⟩ = some (.slice none 0 0) := HB3w6.out.cell 4 rfl; have v5 : w6.cell? ⟨g + 3, 5, none⟩ = some (.slice none 0 0) := HB3w6.out.cell 5 rfl
      have s0 : w6.cell? ⟨g + 4, 0, none⟩ = some (.int .i64 0) := HB4w6.out.cell 0 rfl; have s1 : w6.cell? ⟨g + 4, 1, none⟩ = some (strV []) := HB4w6.out.cell 1 rfl; have s2 : w6.cell? ⟨g + 4, 2, none⟩ = some (strV []) := HB4w6.out.cell 2 rfl; have s3 : w6.cell? ⟨g + 4, 3, none⟩ = some (.int .i64 0) := HB4w6.out.cell 3 rfl; have s4 : w6.cell? ⟨g + 4, 4, none⟩ = some (.slice none 0 0) := HB4w6.out.cell 4 rfl; have s5 : w6.cell? ⟨g + 4, 5, none⟩ = some (.slice none 0 0) := HB4w6.out.cell 5 rfl
      have f0 : w6.frozen? ⟨g + 2, 0, none⟩ = false := HB2w6.out.frozen 0; have h0 : w6.frozen? ⟨g + 3, 0, none⟩ = false := HB3w6.out.frozen 0; have f1 : w6.frozen? ⟨g + 2, 1, none⟩ = false := HB2w6.out.frozen 1; have h1 : w6.frozen? ⟨g + 3, 1, none⟩ = false := HB3w6.out.frozen 1; have f2 : w6.frozen? ⟨g + 2, 2, none⟩ = false := HB2w6.out.frozen 2; have h2 : w6.frozen? ⟨g + 3, 2, none⟩ = false := HB3w6.out.frozen 2; have f3 : w6.frozen? ⟨g + 2, 3, none⟩ = false := HB2w6.out.frozen 3; have h3 : w6.frozen? ⟨g + 3, 3, none⟩ = false := HB3w6.out.frozen 3; have f4 : w6.frozen? ⟨g + 2, 4, none⟩ = false := HB2w6.out.frozen 4; have h4 : w6.frozen? ⟨g + 3, 4, none⟩ = false := HB3w6.out.frozen 4; have f5 : w6.frozen? ⟨g + 2, 5, none⟩ = false := HB2w6.out.frozen 5; have h5 : w6.frozen? ⟨g + 3, 5, none⟩ = false := HB3w6.out.frozen 5
      go_wp2_with fail
      go_region
      go_wp2_with fail
      obtain ⟨z2, z3⟩ := two_set6 HB2w6.out HB3w6.out (by omega) (.int .i64 q.k) (strV q.nm) (strV q.to) (.int .i64 q.h.pos) (.slice D m k) (.slice D' m' k') (.int .i64 p.k) (strV q.to) (strV p.to) (.int .i64 p.h.pos) (.slice A n c) (.slice A' n' c')
      have hb6 := below_drewN (below_set12 (b := g + 2) (b' := g + 3) HWw6.out (by omega) (by omega) (.int .i64 q.k) (strV q.nm) (strV q.to) (.int .i64 q.h.pos) (.slice D m k) (.slice D' m' k') (.int .i64 p.k) (strV q.to) (strV p.to) (.int .i64 p.h.pos) (.slice A n c) (.slice A' n' c')) 1
      have z2 := z2.drewN 1; have z3 := z3.drewN 1
      have hdr : ∀ W : World, W.drewN 1 = W.drew := fun _ => rfl
      rw [hdr] at hb6 z2 z3
      generalize World.drew (World.setCell (World.setCell (World.setCell (World.setCell (World.setCell (World.setCell (World.setCell (World.setCell (World.setCell (World.setCell (World.setCell (World.setCell w6 ⟨g + 2, 0, none⟩ (.int .i64 q.k)) ⟨g + 2, 1, none⟩ (strV q.nm)) ⟨g + 2, 2, none⟩ (strV q.to)) ⟨g + 2, 3, none⟩ (.int .i64 q.h.pos)) ⟨g + 2, 4, none⟩ (.slice D m k)) ⟨g + 2, 5, none⟩ (.slice D' m' k')) ⟨g + 3, 0, none⟩ (.int .i64 p.k)) ⟨g + 3, 1, none⟩ (strV q.to)) ⟨g + 3, 2, none⟩ (strV p.to)) ⟨g + 3, 3, none⟩ (.int .i64 p.h.pos)) ⟨g + 3, 4, none⟩ (.slice A n c)) ⟨g + 3, 5, none⟩ (.slice A' n' c')) = W3 at *
      clear u0 v0 s0 u1 v1 s1 u2 v2 s2 u3 v3 s3 u4 v4 s4 u5 v5 s5 f0 h0 f1 h1 f2 h2 f3 h3 f4 h4 f5 h5
      have u0 : W3.cell? ⟨g + 2, 0, none⟩ = some (.int .i64 q.k) := z2.cell 0 rfl; have u1 : W3.cell? ⟨g + 2, 1, none⟩ = some (strV q.nm) := z2.cell 1 rfl; have u2 : W3.cell? ⟨g + 2, 2, none⟩ = some (strV q.to) := z2.cell 2 rfl; have u3 : W3.cell? ⟨g + 2, 3, none⟩ = some (.int .i64 q.h.pos) := z2.cell 3 rfl; have u4 : W3.cell? ⟨g + 2, 4, none⟩ = some (.slice D m k) := z2.cell 4 rfl; have u5 : W3.cell? ⟨g + 2, 5, none⟩ = some (.slice D' m' k') := z2.cell 5 rfl
      have v0 : W3.cell? ⟨g + 3, 0, none⟩ = some (.int .i64 p.k) := z3.cell 0 rfl; have v1 : W3.cell? ⟨g + 3, 1, none⟩ = some (strV q.to) := z3.cell 1 rfl; have v2 : W3.cell? ⟨g + 3, 2, none⟩ = some (strV p.to) := z3.cell 2 rfl; have v3 : W3.cell? ⟨g + 3, 3, none⟩ = some (.int .i64 p.h.pos) := z3.cell 3 rfl; have v4 : W3.cell? ⟨g + 3, 4, none⟩ = some (.slice A n c) := z3.cell 4 rfl; have v5 : W3.cell? ⟨g + 3, 5, none⟩ = some (.slice A' n' c') := z3.cell 5 rfl
      refine bodyPost_ret (v := .tuple #[.agg #[.int .i64 q.k, strV q.nm, strV q.to, .int .i64 q.h.pos, .slice D m k, .slice D' m' k'], .agg #[.int .i64 p.k, strV q.to, strV p.to, .int .i64 p.h.pos, .slice A n c, .slice A' n' c'], .bool true]) (by simp [results, Try.results56, go_sem, u0, v0, u1, v1, u2, v2, u3, v3, u4, v4, u5, v5]) rfl ?_
      have hW : Below w.heap.size w W3 := by rw [HGS.out]; exact hb6
      rw [HS.out]; exact ppEndE_some hW
    have HN : Hid (passP p q = none) := Lib.hid (passP_n HBA.out H3.out ho hi)
    have c1 : (p.k == 2) = false ∨ ((p.k == 2) = true ∧ lq = false) ∨ ((p.k == 2) = true ∧ lq = true ∧ (q.nm == p.to) = false) := by
      by_cases h1 : p.k = 2
      · cases lq with
        | false => exact .inr (.inl ⟨by simpa using h1, rfl⟩)
        | true =>
          have h2 : q.k = 3 ∨ q.k = 4 := by have := HLQ.out; simpa using this
          exact .inr (.inr ⟨by simpa using h1, rfl, by simpa using fun h => ho ⟨h1, h2, h⟩⟩)
      · exact .inl (by simpa using h1)
    have c2 : (q.k == 2) = false ∨ ((q.k == 2) = true ∧ lp = false) ∨ ((q.k == 2) = true ∧ lp = true ∧ (p.nm == q.nm) = false) := by
      by_cases h1 : q.k = 2
      · cases lp with
        | false => exact .inr (.inl ⟨by simpa using h1, rfl⟩)
        | true =>
          have h2 : p.k = 3 ∨ p.k = 4 := by have := HLP.out; simpa using this
          exact .inr (.inr ⟨by simpa using h1, rfl, by simpa using fun h => hi ⟨h1, h2, h⟩⟩)
      · exact .inl (by simpa using h1)
    clear ho hi
    rcases c1 with c1 | ⟨c1, rfl⟩ | ⟨c1, rfl, c3⟩
    all_goals
      rcases c2 with c2 | ⟨c2, rfl⟩ | ⟨c2, rfl, c4⟩
      all_goals
        go_wp2_with fail
        go_region
        go_wp2_with fail
        obtain ⟨z2, z3⟩ := two_set6 HB2w5.out HB3w5.out (by omega) (.int .i64 0) (strV []) (strV []) (.int .i64 0) (.slice none 0 0) (.slice none 0 0) (.int .i64 0) (strV []) (strV []) (.int .i64 0) (.slice none 0 0) (.slice none 0 0)
        have hb6 := below_drewN (below_set12 (b := g + 2) (b' := g + 3) HWw5.out (by omega) (by omega) (.int .i64 0) (strV []) (strV []) (.int .i64 0) (.slice none 0 0) (.slice none 0 0) (.int .i64 0) (strV []) (strV []) (.int .i64 0) (.slice none 0 0) (.slice none 0 0)) 1
        have z2 := z2.drewN 1; have z3 := z3.drewN 1
        have hdr : ∀ W : World, W.drewN 1 = W.drew := fun _ => rfl
        rw [hdr] at hb6 z2 z3
        generalize World.drew (World.setCell (World.setCell (World.setCell (World.setCell (World.setCell (World.setCell (World.setCell (World.setCell (World.setCell (World.setCell (World.setCell (World.setCell w5 ⟨g + 2, 0, none⟩ (.int .i64 0)) ⟨g + 2, 1, none⟩ (strV [])) ⟨g + 2, 2, none⟩ (strV [])) ⟨g + 2, 3, none⟩ (.int .i64 0)) ⟨g + 2, 4, none⟩ (.slice none 0 0)) ⟨g + 2, 5, none⟩ (.slice none 0 0)) ⟨g + 3, 0, none⟩ (.int .i64 0)) ⟨g + 3, 1, none⟩ (strV [])) ⟨g + 3, 2, none⟩ (strV [])) ⟨g + 3, 3, none⟩ (.int .i64 0)) ⟨g + 3, 4, none⟩ (.slice none 0 0)) ⟨g + 3, 5, none⟩ (.slice none 0 0)) = W3 at *
        clear u0 v0 s0 u1 v1 s1 u2 v2 s2 u3 v3 s3 u4 v4 s4 u5 v5 s5 f0 h0 f1 h1 f2 h2 f3 h3 f4 h4 f5 h5
        have u0 : W3.cell? ⟨g + 2, 0, none⟩ = some (.int .i64 0) := z2.cell 0 rfl; have u1 : W3.cell? ⟨g + 2, 1, none⟩ = some (strV []) := z2.cell 1 rfl; have u2 : W3.cell? ⟨g + 2, 2, none⟩ = some (strV []) := z2.cell 2 rfl; have u3 : W3.cell? ⟨g + 2, 3, none⟩ = some (.int .i64 0) := z2.cell 3 rfl; have u4 : W3.cell? ⟨g + 2, 4, none⟩ = some (.slice none 0 0) := z2.cell 4 rfl; have u5 : W3.cell? ⟨g + 2, 5, none⟩ = some (.slice none 0 0) := z2.cell 5 rfl
        have v0 : W3.cell? ⟨g + 3, 0, none⟩ = some (.int .i64 0) := z3.cell 0 rfl; have v1 : W3.cell? ⟨g + 3, 1, none⟩ = some (strV []) := z3.cell 1 rfl; have v2 : W3.cell? ⟨g + 3, 2, none⟩ = some (strV []) := z3.cell 2 rfl; have v3 : W3.cell? ⟨g + 3, 3, none⟩ = some (.int .i64 0) := z3.cell 3 rfl; have v4 : W3.cell? ⟨g + 3, 4, none⟩ = some (.slice none 0 0) := z3.cell 4 rfl; have v5 : W3.cell? ⟨g + 3, 5, none⟩ = some (.slice none 0 0) := z3.cell 5 rfl
        refine bodyPost_ret (v := .tuple #[.agg #[.int .i64 0, strV [], strV [], .int .i64 0, .slice none 0 0, .slice none 0 0], .agg #[.int .i64 0, strV [], strV [], .int .i64 0, .slice none 0 0, .slice none 0 0], .bool false]) (by simp [results, Try.results56, go_sem, u0, v0, u1, v1, u2, v2, u3, v3, u4, v4, u5, v5]) rfl ?_
        have hW : Below w.heap.size w W3 := by rw [HGS.out]; exact hb6
        exact ppEndE_none HN.out hW

end Pr
end Go.Proofs.Ytbiiabfhngdeiaa

set_option maxRecDepth 100000
namespace Go.Proofs.Ytbiiabfhngdeiaa
open Go.RowKit
set_option linter.unusedVariables false
set_option linter.unusedSimpArgs false
namespace Pr
open Tx Df Sq Hk Tr

theorem ppEndH_none {w w' : World} {p q x y : Ch} {b : Bool} (ho : outP (passP p q) = (x, y)) (hb : (passP p q).isSome = b) (h : passP p q = none) (hw : Below w.heap.size w w') :
    PPEndH w x y b (.returned (.tuple #[.agg #[.int .i64 0, strV [], strV [], .int .i64 0, .slice none 0 0, .slice none 0 0], .agg #[.int .i64 0, strV [], strV [], .int .i64 0, .slice none 0 0, .slice none 0 0], .bool false])) w' := by
  rw [h] at ho hb
  subst hb
  injection ho with h1 h2
  subst h1 h2
  exact ⟨none, 0, 0, none, 0, 0, none, 0, 0, none, 0, 0, rfl, zero_PV _ _, zero_PV _ _, ⟨Nat.zero_le _, Nat.zero_le _⟩, ⟨Nat.zero_le _, Nat.zero_le _⟩, ⟨hi_none _, hi_none _, hi_none _, hi_none _⟩, hw⟩
theorem ppEndH_some {w w' : World} {A B D E : Option Addr} {n c m d i j k l : Nat} {p q x y x' y' : Ch} {b : Bool} (ho : outP (passP p q) = (x, y)) (hb : (passP p q).isSome = b) (h : passP p q = some (x', y')) (hv : PV w' w'.heap.size A n c B m d x') (gv : PV w' w'.heap.size D i j E k l y') (hl : n ≤ 1000 ∧ m ≤ 1000) (gl : i ≤ 1000 ∧ k ≤ 1000)
    (hi : Hi w.heap.size A ∧ Hi w.heap.size B ∧ Hi w.heap.size D ∧ Hi w.heap.size E) (hw : Below w.heap.size w w') :
    PPEndH w x y b (.returned (.tuple #[prV x'.k x'.nm x'.to x'.h.pos A n c B m d, prV y'.k y'.nm y'.to y'.h.pos D i j E k l, .bool true])) w' := by
  rw [h] at ho hb
  subst hb
  injection ho with h1 h2
  subst h1 h2
  exact ⟨A, n, c, B, m, d, D, i, j, E, k, l, rfl, hv, gv, hl, gl, hi, hw⟩

/-- Two changes, boxed, the one or the other one first. -/
def Two (c wx : World) (T U : Nat) (x y : Array Value) : Prop := Blk wx T 51 x ∧ Blk wx U 51 y ∧ T ≠ U ∧ c.heap.size ≤ T ∧ c.heap.size ≤ U ∧ Below c.heap.size c wx
theorem two_aa (c : World) (x y : Array Value) : Two c ((c.alloc (.cells x 51)).alloc (.cells y 51)) c.heap.size (c.heap.size + 1) x y := by
  have h2 := Blk.new (c.alloc (.cells x 51)) 51 y
  simp only [World.size_alloc] at h2
  exact ⟨(Blk.new c _ x).alloc _, h2, by omega, Nat.le_refl _, Nat.le_succ _, two_box c _ _⟩
theorem Two.swap {c wx : World} {T U : Nat} {x y : Array Value} (h : Two c wx T U x y) : Two c wx U T y x := ⟨h.2.1, h.1, h.2.2.1.symm, h.2.2.2.2.1, h.2.2.2.1, h.2.2.2.2.2⟩
theorem Two.drew {c wx : World} {T U : Nat} {x y : Array Value} (h : Two c wx T U x y) : Two c wx.drew T U x y := ⟨h.1.drewN 1, h.2.1.drewN 1, h.2.2.1, h.2.2.2.1, h.2.2.2.2.1, below_drewN h.2.2.2.2.2 1⟩

theorem blk_ne6 {W : World} {b b' : Nat} {t : TypeId} {cs : Array Value} (h : Blk W b t cs) (hne : b ≠ b') (v0 v1 v2 v3 v4 v5 : Value) :
    Blk ((((((W.setCell ⟨b', 0, none⟩ v0).setCell ⟨b', 1, none⟩ v1).setCell ⟨b', 2, none⟩ v2).setCell ⟨b', 3, none⟩ v3).setCell ⟨b', 4, none⟩ v4).setCell ⟨b', 5, none⟩ v5) b t cs :=
  (((((h.set_ne hne 0 v0).set_ne hne 1 v1).set_ne hne 2 v2).set_ne hne 3 v3).set_ne hne 4 v4).set_ne hne 5 v5

/-- What lies there behind the switch. -/
def PMid (w wx : World) (g T U : Nat) (p q : Ch) : Prop :=
  ∃ x y A1 n1 c1 B1 m1 d1 A2 n2 c2 B2 m2 d2, passP p q = some (x, y) ∧
    Blk wx T 51 #[.int .i64 x.k, strV x.nm, strV x.to, .int .i64 x.h.pos, .slice A1 n1 c1, .slice B1 m1 d1] ∧
    Blk wx U 51 #[.int .i64 y.k, strV y.nm, strV y.to, .int .i64 y.h.pos, .slice A2 n2 c2, .slice B2 m2 d2] ∧
    Blk wx (g + 2) 51 #[.int .i64 0, strV [], strV [], .int .i64 0, .slice none 0 0, .slice none 0 0] ∧ Blk wx (g + 3) 51 #[.int .i64 0, strV [], strV [], .int .i64 0, .slice none 0 0, .slice none 0 0] ∧
    PV wx wx.heap.size A1 n1 c1 B1 m1 d1 x ∧ PV wx wx.heap.size A2 n2 c2 B2 m2 d2 y ∧ (n1 ≤ 1000 ∧ m1 ≤ 1000) ∧ (n2 ≤ 1000 ∧ m2 ≤ 1000) ∧ Below g w wx

/-- A change that may be, of another kind than a move, has no other name. -/
theorem may_to {p : Ch} (hm : mayP p = true) (hk : p.k = 3 ∨ p.k = 4) : p.to = [] := (may_h hm hk).2.1
theorem name_ne {p q : Ch} (hm : mayP p = true) (hq : mayP q = true) (hk : p.k = 3 ∨ p.k = 4) : (q.nm == p.to) = false := by
  rw [may_to hm hk]
  have h1 := (mayP_cases.1 hq).1
  cases hn : q.nm with
  | nil => rw [hn] at h1; revert h1; decide
  | cons _ _ => rfl

theorem k_absurd {k : Int} (h : (k == 3) = true) (h' : (k == 4) = true) : False := by
  have a : k = 3 := by simpa using h
  have b : k = 4 := by simpa using h'
  omega
theorem k_absurd2 {k : Int} (h : (k == 3) = true) (h' : (k == 2) = true) : False := by
  have a : k = 3 := by simpa using h
  have b : k = 2 := by simpa using h'
  omega
theorem k_absurd3 {k : Int} (h : (k == 4) = true) (h' : (k == 2) = true) : False := by
  have a : k = 4 := by simpa using h
  have b : k = 2 := by simpa using h'
  omega

set_option maxRecDepth 100000 in
set_option maxHeartbeats 16000000 in
theorem PassPH (A : Option Addr) (n c : Nat) (A' : Option Addr) (n' c' : Nat) (D : Option Addr) (m k : Nat) (D' : Option Addr) (m' k' : Nat) (p q x y : Ch) (w : World) (b : Bool) (hl : n ≤ 1000 ∧ n' ≤ 1000) (gl : m ≤ 1000 ∧ m' ≤ 1000)
    (hv : PV w w.heap.size A n c A' n' c' p) (gv : PV w w.heap.size D m k D' m' k' q) (ho : outP (passP p q) = (x, y)) (hb : (passP p q).isSome = b) :
    Calls Try.prog 55 #[prV p.k p.nm p.to p.h.pos A n c A' n' c', prV q.k q.nm q.to q.h.pos D m k D' m' k'] w (PPEndH w x y b) := by
  have HV0 := Lib.hid hv; have GV0 := Lib.hid gv; have HL := Lib.hid hl; have GL := Lib.hid gl; have HO := Lib.hid ho; have HBB := Lib.hid hb
  clear hl gl hv gv ho hb
  go_enter Try.func55, Try.ntmps55
  go_wp2_with fail
  have hw0 : Below w.heap.size w ((((w.alloc (.cells #[.int .i64 p.k, strV p.nm, strV p.to, .int .i64 p.h.pos, .slice A n c, .slice A' n' c'] 51)).alloc (.cells #[.int .i64 q.k, strV q.nm, strV q.to, .int .i64 q.h.pos, .slice D m k, .slice D' m' k'] 51)).alloc (.cells #[.int .i64 0, strV [], strV [], .int .i64 0, .slice none 0 0, .slice none 0 0] 51)).alloc (.cells #[.int .i64 0, strV [], strV [], .int .i64 0, .slice none 0 0, .slice none 0 0] 51)) := ((((Below.refl _ _).alloc (Nat.le_refl _) _).alloc (by simp) _).alloc (by simp; omega) _).alloc (by simp; omega) _
  have b0 := (((Blk.new w 51 #[.int .i64 p.k, strV p.nm, strV p.to, .int .i64 p.h.pos, .slice A n c, .slice A' n' c']).alloc (.cells #[.int .i64 q.k, strV q.nm, strV q.to, .int .i64 q.h.pos, .slice D m k, .slice D' m' k'] 51)).alloc (.cells #[.int .i64 0, strV [], strV [], .int .i64 0, .slice none 0 0, .slice none 0 0] 51)).alloc (.cells #[.int .i64 0, strV [], strV [], .int .i64 0, .slice none 0 0, .slice none 0 0] 51)
  have b1 := ((Blk.new (w.alloc (.cells #[.int .i64 p.k, strV p.nm, strV p.to, .int .i64 p.h.pos, .slice A n c, .slice A' n' c'] 51)) 51 #[.int .i64 q.k, strV q.nm, strV q.to, .int .i64 q.h.pos, .slice D m k, .slice D' m' k']).alloc (.cells #[.int .i64 0, strV [], strV [], .int .i64 0, .slice none 0 0, .slice none 0 0] 51)).alloc (.cells #[.int .i64 0, strV [], strV [], .int .i64 0, .slice none 0 0, .slice none 0 0] 51)
  have b2 := (Blk.new ((w.alloc (.cells #[.int .i64 p.k, strV p.nm, strV p.to, .int .i64 p.h.pos, .slice A n c, .slice A' n' c'] 51)).alloc (.cells #[.int .i64 q.k, strV q.nm, strV q.to, .int .i64 q.h.pos, .slice D m k, .slice D' m' k'] 51)) 51 #[.int .i64 0, strV [], strV [], .int .i64 0, .slice none 0 0, .slice none 0 0]).alloc (.cells #[.int .i64 0, strV [], strV [], .int .i64 0, .slice none 0 0, .slice none 0 0] 51)
  have b3 := Blk.new (((w.alloc (.cells #[.int .i64 p.k, strV p.nm, strV p.to, .int .i64 p.h.pos, .slice A n c, .slice A' n' c'] 51)).alloc (.cells #[.int .i64 q.k, strV q.nm, strV q.to, .int .i64 q.h.pos, .slice D m k, .slice D' m' k'] 51)).alloc (.cells #[.int .i64 0, strV [], strV [], .int .i64 0, .slice none 0 0, .slice none 0 0] 51)) 51 #[.int .i64 0, strV [], strV [], .int .i64 0, .slice none 0 0, .slice none 0 0]
  simp only [World.size_alloc] at b1 b2 b3
  generalize ((((w.alloc (.cells #[.int .i64 p.k, strV p.nm, strV p.to, .int .i64 p.h.pos, .slice A n c, .slice A' n' c'] 51)).alloc (.cells #[.int .i64 q.k, strV q.nm, strV q.to, .int .i64 q.h.pos, .slice D m k, .slice D' m' k'] 51)).alloc (.cells #[.int .i64 0, strV [], strV [], .int .i64 0, .slice none 0 0, .slice none 0 0] 51)).alloc (.cells #[.int .i64 0, strV [], strV [], .int .i64 0, .slice none 0 0, .slice none 0 0] 51)) = w0 at *
  obtain ⟨g, hgs⟩ : ∃ g, w.heap.size = g := ⟨_, rfl⟩
  rw [hgs] at b0 b1 b2 b3 ⊢
  rw [show g + 1 + 1 = g + 2 from rfl] at b2 b3 ⊢
  rw [show g + 2 + 1 = g + 3 from rfl] at b3 ⊢
  have HGS := Lib.hid hgs
  have HVw0 := Lib.hid (HV0.out.mv hw0); have GVw0 := Lib.hid (GV0.out.mv hw0)
  rw [hgs] at hw0
  have HWw0 := Lib.hid hw0
  have HB0w0 := Lib.hid b0; have HB1w0 := Lib.hid b1; have HB2w0 := Lib.hid b2; have HB3w0 := Lib.hid b3
  clear hgs b0 b1 b2 b3 hw0
  obtain ⟨bp, hbp⟩ : ∃ b, mayP p = b := ⟨_, rfl⟩
  obtain ⟨bq, hbq⟩ : ∃ b, mayP q = b := ⟨_, rfl⟩
  obtain ⟨ba, hba⟩ : ∃ b, apartP p q = b := ⟨_, rfl⟩
  have HBP := Lib.hid hbp; have HBQ := Lib.hid hbq; have HBA := Lib.hid hba
  clear hbp hbq hba
  have HGw0 := Lib.hid (show g ≤ w0.heap.size by have := HB3w0.out.lt; omega)
  have x0 : w0.cell? ⟨g, 0, none⟩ = some (.int .i64 p.k) := HB0w0.out.cell 0 rfl; have x1 : w0.cell? ⟨g, 1, none⟩ = some (strV p.nm) := HB0w0.out.cell 1 rfl; have x2 : w0.cell? ⟨g, 2, none⟩ = some (strV p.to) := HB0w0.out.cell 2 rfl; have x3 : w0.cell? ⟨g, 3, none⟩ = some (.int .i64 p.h.pos) := HB0w0.out.cell 3 rfl; have x4 : w0.cell? ⟨g, 4, none⟩ = some (.slice A n c) := HB0w0.out.cell 4 rfl; have x5 : w0.cell? ⟨g, 5, none⟩ = some (.slice A' n' c') := HB0w0.out.cell 5 rfl
  go_step3
  go_wp2_with fail
  clear x0 x1 x2 x3 x4 x5
  refine (MayP A n c A' n' c' p w0 bp HVw0.out HBP.out).mono ?_
  rintro e w1 ⟨rfl, hb⟩
  have HVw1 := Lib.hid (HVw0.out.mv hb); have GVw1 := Lib.hid (GVw0.out.mv hb); clear HVw0 GVw0
  have HWw1 := Lib.hid (HWw0.out.trans (hb.mono HGw0.out)); have HGw1 := Lib.hid (Nat.le_trans HGw0.out hb.size)
  have HB0w1 := Lib.hid (HB0w0.out.below hb HB0w0.out.lt); have HB1w1 := Lib.hid (HB1w0.out.below hb HB1w0.out.lt); have HB2w1 := Lib.hid (HB2w0.out.below hb HB2w0.out.lt); have HB3w1 := Lib.hid (HB3w0.out.below hb HB3w0.out.lt)
  clear hb HWw0 HGw0 HB0w0 HB1w0 HB2w0 HB3w0
  cases bp with
  | false =>
    have u0 : w1.cell? ⟨g + 2, 0, none⟩ = some (.int .i64 0) := HB2w1.out.cell 0 rfl; have u1 : w1.cell? ⟨g + 2, 1, none⟩ = some (strV []) := HB2w1.out.cell 1 rfl; have u2 : w1.cell? ⟨g + 2, 2, none⟩ = some (strV []) := HB2w1.out.cell 2 rfl; have u3 : w1.cell? ⟨g + 2, 3, none⟩ = some (.int .i64 0) := HB2w1.out.cell 3 rfl; have u4 : w1.cell? ⟨g + 2, 4, none⟩ = some (.slice none 0 0) := HB2w1.out.cell 4 rfl; have u5 : w1.cell? ⟨g + 2, 5, none⟩ = some (.slice none 0 0) := HB2w1.out.cell 5 rfl
    have v0 : w1.cell? ⟨g + 3, 0, none⟩ = some (.int .i64 0) := HB3w1.out.cell 0 rfl; have v1 : w1.cell? ⟨g + 3, 1, none⟩ = some (strV []) := HB3w1.out.cell 1 rfl; have v2 : w1.cell? ⟨g + 3, 2, none⟩ = some (strV []) := HB3w1.out.cell 2 rfl; have v3 : w1.cell? ⟨g + 3, 3, none⟩ = some (.int .i64 0) := HB3w1.out.cell 3 rfl; have v4 : w1.cell? ⟨g + 3, 4, none⟩ = some (.slice none 0 0) := HB3w1.out.cell 4 rfl; have v5 : w1.cell? ⟨g + 3, 5, none⟩ = some (.slice none 0 0) := HB3w1.out.cell 5 rfl
    have f0 : w1.frozen? ⟨g + 2, 0, none⟩ = false := HB2w1.out.frozen 0; have f1 : w1.frozen? ⟨g + 2, 1, none⟩ = false := HB2w1.out.frozen 1; have f2 : w1.frozen? ⟨g + 2, 2, none⟩ = false := HB2w1.out.frozen 2; have f3 : w1.frozen? ⟨g + 2, 3, none⟩ = false := HB2w1.out.frozen 3; have f4 : w1.frozen? ⟨g + 2, 4, none⟩ = false := HB2w1.out.frozen 4; have f5 : w1.frozen? ⟨g + 2, 5, none⟩ = false := HB2w1.out.frozen 5
    have h0 : w1.frozen? ⟨g + 3, 0, none⟩ = false := HB3w1.out.frozen 0; have h1 : w1.frozen? ⟨g + 3, 1, none⟩ = false := HB3w1.out.frozen 1; have h2 : w1.frozen? ⟨g + 3, 2, none⟩ = false := HB3w1.out.frozen 2; have h3 : w1.frozen? ⟨g + 3, 3, none⟩ = false := HB3w1.out.frozen 3; have h4 : w1.frozen? ⟨g + 3, 4, none⟩ = false := HB3w1.out.frozen 4; have h5 : w1.frozen? ⟨g + 3, 5, none⟩ = false := HB3w1.out.frozen 5
    go_wp2_with fail
    obtain ⟨z2, z3⟩ := two_set6 HB2w1.out HB3w1.out (by omega) (.int .i64 0) (strV []) (strV []) (.int .i64 0) (.slice none 0 0) (.slice none 0 0) (.int .i64 0) (strV []) (strV []) (.int .i64 0) (.slice none 0 0) (.slice none 0 0)
    have hb6 := below_set12 (b := g + 2) (b' := g + 3) HWw1.out (by omega) (by omega) (.int .i64 0) (strV []) (strV []) (.int .i64 0) (.slice none 0 0) (.slice none 0 0) (.int .i64 0) (strV []) (strV []) (.int .i64 0) (.slice none 0 0) (.slice none 0 0)
    generalize (World.setCell (World.setCell (World.setCell (World.setCell (World.setCell (World.setCell (World.setCell (World.setCell (World.setCell (World.setCell (World.setCell (World.setCell w1 ⟨g + 2, 0, none⟩ (.int .i64 0)) ⟨g + 2, 1, none⟩ (strV [])) ⟨g + 2, 2, none⟩ (strV [])) ⟨g + 2, 3, none⟩ (.int .i64 0)) ⟨g + 2, 4, none⟩ (.slice none 0 0)) ⟨g + 2, 5, none⟩ (.slice none 0 0)) ⟨g + 3, 0, none⟩ (.int .i64 0)) ⟨g + 3, 1, none⟩ (strV [])) ⟨g + 3, 2, none⟩ (strV [])) ⟨g + 3, 3, none⟩ (.int .i64 0)) ⟨g + 3, 4, none⟩ (.slice none 0 0)) ⟨g + 3, 5, none⟩ (.slice none 0 0)) = W3 at *
    clear u0 u1 u2 u3 u4 u5 v0 v1 v2 v3 v4 v5 f0 f1 f2 f3 f4 f5 h0 h1 h2 h3 h4 h5
    have u0 : W3.cell? ⟨g + 2, 0, none⟩ = some (.int .i64 0) := z2.cell 0 rfl; have u1 : W3.cell? ⟨g + 2, 1, none⟩ = some (strV []) := z2.cell 1 rfl; have u2 : W3.cell? ⟨g + 2, 2, none⟩ = some (strV []) := z2.cell 2 rfl; have u3 : W3.cell? ⟨g + 2, 3, none⟩ = some (.int .i64 0) := z2.cell 3 rfl; have u4 : W3.cell? ⟨g + 2, 4, none⟩ = some (.slice none 0 0) := z2.cell 4 rfl; have u5 : W3.cell? ⟨g + 2, 5, none⟩ = some (.slice none 0 0) := z2.cell 5 rfl
    have v0 : W3.cell? ⟨g + 3, 0, none⟩ = some (.int .i64 0) := z3.cell 0 rfl; have v1 : W3.cell? ⟨g + 3, 1, none⟩ = some (strV []) := z3.cell 1 rfl; have v2 : W3.cell? ⟨g + 3, 2, none⟩ = some (strV []) := z3.cell 2 rfl; have v3 : W3.cell? ⟨g + 3, 3, none⟩ = some (.int .i64 0) := z3.cell 3 rfl; have v4 : W3.cell? ⟨g + 3, 4, none⟩ = some (.slice none 0 0) := z3.cell 4 rfl; have v5 : W3.cell? ⟨g + 3, 5, none⟩ = some (.slice none 0 0) := z3.cell 5 rfl
    try rw [Exit.noGoto_ret]
    refine bodyPost_ret (v := .tuple #[.agg #[.int .i64 0, strV [], strV [], .int .i64 0, .slice none 0 0, .slice none 0 0], .agg #[.int .i64 0, strV [], strV [], .int .i64 0, .slice none 0 0, .slice none 0 0], .bool false]) (by simp [results, Try.results55, go_sem, u0, v0, u1, v1, u2, v2, u3, v3, u4, v4, u5, v5]) rfl ?_
    have hW : Below w.heap.size w W3 := by rw [HGS.out]; exact hb6
    exact ppEndH_none HO.out HBB.out (passP_no1 HBP.out) hW
  | true =>
  have y0 : w1.cell? ⟨g + 1, 0, none⟩ = some (.int .i64 q.k) := HB1w1.out.cell 0 rfl; have y1 : w1.cell? ⟨g + 1, 1, none⟩ = some (strV q.nm) := HB1w1.out.cell 1 rfl; have y2 : w1.cell? ⟨g + 1, 2, none⟩ = some (strV q.to) := HB1w1.out.cell 2 rfl; have y3 : w1.cell? ⟨g + 1, 3, none⟩ = some (.int .i64 q.h.pos) := HB1w1.out.cell 3 rfl; have y4 : w1.cell? ⟨g + 1, 4, none⟩ = some (.slice D m k) := HB1w1.out.cell 4 rfl; have y5 : w1.cell? ⟨g + 1, 5, none⟩ = some (.slice D' m' k') := HB1w1.out.cell 5 rfl
  go_wp2_with fail
  clear y0 y1 y2 y3 y4 y5
  refine (MayP D m k D' m' k' q w1 bq GVw1.out HBQ.out).mono ?_
  rintro e w2 ⟨rfl, hb⟩
  have HVw2 := Lib.hid (HVw1.out.mv hb); have GVw2 := Lib.hid (GVw1.out.mv hb); clear HVw1 GVw1
  have HWw2 := Lib.hid (HWw1.out.trans (hb.mono HGw1.out)); have HGw2 := Lib.hid (Nat.le_trans HGw1.out hb.size)
  have HB0w2 := Lib.hid (HB0w1.out.below hb HB0w1.out.lt); have HB1w2 := Lib.hid (HB1w1.out.below hb HB1w1.out.lt); have HB2w2 := Lib.hid (HB2w1.out.below hb HB2w1.out.lt); have HB3w2 := Lib.hid (HB3w1.out.below hb HB3w1.out.lt)
  clear hb HWw1 HGw1 HB0w1 HB1w1 HB2w1 HB3w1
  cases bq with
  | false =>
    have u0 : w2.cell? ⟨g + 2, 0, none⟩ = some (.int .i64 0) := HB2w2.out.cell 0 rfl; have u1 : w2.cell? ⟨g + 2, 1, none⟩ = some (strV []) := HB2w2.out.cell 1 rfl; have u2 : w2.cell? ⟨g + 2, 2, none⟩ = some (strV []) := HB2w2.out.cell 2 rfl; have u3 : w2.cell? ⟨g + 2, 3, none⟩ = some (.int .i64 0) := HB2w2.out.cell 3 rfl; have u4 : w2.cell? ⟨g + 2, 4, none⟩ = some (.slice none 0 0) := HB2w2.out.cell 4 rfl; have u5 : w2.cell? ⟨g + 2, 5, none⟩ = some (.slice none 0 0) := HB2w2.out.cell 5 rfl
    have v0 : w2.cell? ⟨g + 3, 0, none⟩ = some (.int .i64 0) := HB3w2.out.cell 0 rfl; have v1 : w2.cell? ⟨g + 3, 1, none⟩ = some (strV []) := HB3w2.out.cell 1 rfl; have v2 : w2.cell? ⟨g + 3, 2, none⟩ = some (strV []) := HB3w2.out.cell 2 rfl; have v3 : w2.cell? ⟨g + 3, 3, none⟩ = some (.int .i64 0) := HB3w2.out.cell 3 rfl; have v4 : w2.cell? ⟨g + 3, 4, none⟩ = some (.slice none 0 0) := HB3w2.out.cell 4 rfl; have v5 : w2.cell? ⟨g + 3, 5, none⟩ = some (.slice none 0 0) := HB3w2.out.cell 5 rfl
    have f0 : w2.frozen? ⟨g + 2, 0, none⟩ = false := HB2w2.out.frozen 0; have f1 : w2.frozen? ⟨g + 2, 1, none⟩ = false := HB2w2.out.frozen 1; have f2 : w2.frozen? ⟨g + 2, 2, none⟩ = false := HB2w2.out.frozen 2; have f3 : w2.frozen? ⟨g + 2, 3, none⟩ = false := HB2w2.out.frozen 3; have f4 : w2.frozen? ⟨g + 2, 4, none⟩ = false := HB2w2.out.frozen 4; have f5 : w2.frozen? ⟨g + 2, 5, none⟩ = false := HB2w2.out.frozen 5
    have h0 : w2.frozen? ⟨g + 3, 0, none⟩ = false := HB3w2.out.frozen 0; have h1 : w2.frozen? ⟨g + 3, 1, none⟩ = false := HB3w2.out.frozen 1; have h2 : w2.frozen? ⟨g + 3, 2, none⟩ = false := HB3w2.out.frozen 2; have h3 : w2.frozen? ⟨g + 3, 3, none⟩ = false := HB3w2.out.frozen 3; have h4 : w2.frozen? ⟨g + 3, 4, none⟩ = false := HB3w2.out.frozen 4; have h5 : w2.frozen? ⟨g + 3, 5, none⟩ = false := HB3w2.out.frozen 5
    go_wp2_with fail
    obtain ⟨z2, z3⟩ := two_set6 HB2w2.out HB3w2.out (by omega) (.int .i64 0) (strV []) (strV []) (.int .i64 0) (.slice none 0 0) (.slice none 0 0) (.int .i64 0) (strV []) (strV []) (.int .i64 0) (.slice none 0 0) (.slice none 0 0)
    have hb6 := below_set12 (b := g + 2) (b' := g + 3) HWw2.out (by omega) (by omega) (.int .i64 0) (strV []) (strV []) (.int .i64 0) (.slice none 0 0) (.slice none 0 0) (.int .i64 0) (strV []) (strV []) (.int .i64 0) (.slice none 0 0) (.slice none 0 0)
    generalize (World.setCell (World.setCell (World.setCell (World.setCell (World.setCell (World.setCell (World.setCell (World.setCell (World.setCell (World.setCell (World.setCell (World.setCell w2 ⟨g + 2, 0, none⟩ (.int .i64 0)) ⟨g + 2, 1, none⟩ (strV [])) ⟨g + 2, 2, none⟩ (strV [])) ⟨g + 2, 3, none⟩ (.int .i64 0)) ⟨g + 2, 4, none⟩ (.slice none 0 0)) ⟨g + 2, 5, none⟩ (.slice none 0 0)) ⟨g + 3, 0, none⟩ (.int .i64 0)) ⟨g + 3, 1, none⟩ (strV [])) ⟨g + 3, 2, none⟩ (strV [])) ⟨g + 3, 3, none⟩ (.int .i64 0)) ⟨g + 3, 4, none⟩ (.slice none 0 0)) ⟨g + 3, 5, none⟩ (.slice none 0 0)) = W3 at *
    clear u0 u1 u2 u3 u4 u5 v0 v1 v2 v3 v4 v5 f0 f1 f2 f3 f4 f5 h0 h1 h2 h3 h4 h5
    have u0 : W3.cell? ⟨g + 2, 0, none⟩ = some (.int .i64 0) := z2.cell 0 rfl; have u1 : W3.cell? ⟨g + 2, 1, none⟩ = some (strV []) := z2.cell 1 rfl; have u2 : W3.cell? ⟨g + 2, 2, none⟩ = some (strV []) := z2.cell 2 rfl; have u3 : W3.cell? ⟨g + 2, 3, none⟩ = some (.int .i64 0) := z2.cell 3 rfl; have u4 : W3.cell? ⟨g + 2, 4, none⟩ = some (.slice none 0 0) := z2.cell 4 rfl; have u5 : W3.cell? ⟨g + 2, 5, none⟩ = some (.slice none 0 0) := z2.cell 5 rfl
    have v0 : W3.cell? ⟨g + 3, 0, none⟩ = some (.int .i64 0) := z3.cell 0 rfl; have v1 : W3.cell? ⟨g + 3, 1, none⟩ = some (strV []) := z3.cell 1 rfl; have v2 : W3.cell? ⟨g + 3, 2, none⟩ = some (strV []) := z3.cell 2 rfl; have v3 : W3.cell? ⟨g + 3, 3, none⟩ = some (.int .i64 0) := z3.cell 3 rfl; have v4 : W3.cell? ⟨g + 3, 4, none⟩ = some (.slice none 0 0) := z3.cell 4 rfl; have v5 : W3.cell? ⟨g + 3, 5, none⟩ = some (.slice none 0 0) := z3.cell 5 rfl
    try rw [Exit.noGoto_ret]
    refine bodyPost_ret (v := .tuple #[.agg #[.int .i64 0, strV [], strV [], .int .i64 0, .slice none 0 0, .slice none 0 0], .agg #[.int .i64 0, strV [], strV [], .int .i64 0, .slice none 0 0, .slice none 0 0], .bool false]) (by simp [results, Try.results55, go_sem, u0, v0, u1, v1, u2, v2, u3, v3, u4, v4, u5, v5]) rfl ?_
    have hW : Below w.heap.size w W3 := by rw [HGS.out]; exact hb6
    exact ppEndH_none HO.out HBB.out (passP_no2 HBQ.out) hW
  | true =>
  go_upto_region 3 with fail
  go_cut [7, 8] from 9 (fun s7 s8 wx => ∃ (T U : Nat), s7 = .pointer (some ⟨T, 0, none⟩) ∧ s8 = .pointer (some ⟨U, 0, none⟩) ∧ Two w2 wx T U #[.int .i64 q.k, strV q.nm, strV q.to, .int .i64 q.h.pos, .slice D m k, .slice D' m' k'] #[.int .i64 p.k, strV p.nm, strV p.to, .int .i64 p.h.pos, .slice A n c, .slice A' n' c'])
  case first =>
    have x0 : w2.cell? ⟨g, 0, none⟩ = some (.int .i64 p.k) := HB0w2.out.cell 0 rfl; have x1 : w2.cell? ⟨g, 1, none⟩ = some (strV p.nm) := HB0w2.out.cell 1 rfl; have x2 : w2.cell? ⟨g, 2, none⟩ = some (strV p.to) := HB0w2.out.cell 2 rfl; have x3 : w2.cell? ⟨g, 3, none⟩ = some (.int .i64 p.h.pos) := HB0w2.out.cell 3 rfl; have x4 : w2.cell? ⟨g, 4, none⟩ = some (.slice A n c) := HB0w2.out.cell 4 rfl; have x5 : w2.cell? ⟨g, 5, none⟩ = some (.slice A' n' c') := HB0w2.out.cell 5 rfl
    have y0 : w2.cell? ⟨g + 1, 0, none⟩ = some (.int .i64 q.k) := HB1w2.out.cell 0 rfl; have y1 : w2.cell? ⟨g + 1, 1, none⟩ = some (strV q.nm) := HB1w2.out.cell 1 rfl; have y2 : w2.cell? ⟨g + 1, 2, none⟩ = some (strV q.to) := HB1w2.out.cell 2 rfl; have y3 : w2.cell? ⟨g + 1, 3, none⟩ = some (.int .i64 q.h.pos) := HB1w2.out.cell 3 rfl; have y4 : w2.cell? ⟨g + 1, 4, none⟩ = some (.slice D m k) := HB1w2.out.cell 4 rfl; have y5 : w2.cell? ⟨g + 1, 5, none⟩ = some (.slice D' m' k') := HB1w2.out.cell 5 rfl
    have hg0 : g < w2.heap.size := HB0w2.out.lt
    have hg1 : g + 1 < w2.heap.size := HB1w2.out.lt
    go_region
    all_goals (try go_wp2_with fail)
    all_goals go_meet
    all_goals first
      | (with_reducible exact ⟨_, _, rfl, rfl, (two_aa w2 _ _).drew⟩)
      | (with_reducible exact ⟨_, _, rfl, rfl, (two_aa w2 _ _).swap.drew⟩)
      | (exact ⟨_, _, rfl, rfl, (two_aa w2 _ _).drew⟩)
      | (exact ⟨_, _, rfl, rfl, (two_aa w2 _ _).swap.drew⟩)
  case rest =>
  obtain ⟨T, U, rfl, rfl, hbt, hbu, hne, hT, hU, hb⟩ := hcut
  have HBTwc := Lib.hid hbt; have HBUwc := Lib.hid hbu; have HNE := Lib.hid hne
  have HgT : Hid (g + 3 < T ∧ g + 3 < U) := Lib.hid (by have := HB3w2.out.lt; omega)
  have HVwc := Lib.hid (HVw2.out.mv hb); have GVwc := Lib.hid (GVw2.out.mv hb); clear HVw2 GVw2
  clear hbt hbu hne hT hU
  have HWwc := Lib.hid (HWw2.out.trans (hb.mono HGw2.out)); have HGwc := Lib.hid (Nat.le_trans HGw2.out hb.size)
  have HB0wc := Lib.hid (HB0w2.out.below hb HB0w2.out.lt); have HB1wc := Lib.hid (HB1w2.out.below hb HB1w2.out.lt); have HB2wc := Lib.hid (HB2w2.out.below hb HB2w2.out.lt); have HB3wc := Lib.hid (HB3w2.out.below hb HB3w2.out.lt)
  clear hb HWw2 HGw2 HB0w2 HB1w2 HB2w2 HB3w2
  go_wp2_with fail
  go_step3
  go_step
  go_step
  go_step
  go_cut [] from 9 (fun wx => PMid w wx g T U p q)
  case first =>
    have x0 : wc.cell? ⟨g, 0, none⟩ = some (.int .i64 p.k) := HB0wc.out.cell 0 rfl; have x1 : wc.cell? ⟨g, 1, none⟩ = some (strV p.nm) := HB0wc.out.cell 1 rfl; have x2 : wc.cell? ⟨g, 2, none⟩ = some (strV p.to) := HB0wc.out.cell 2 rfl; have x3 : wc.cell? ⟨g, 3, none⟩ = some (.int .i64 p.h.pos) := HB0wc.out.cell 3 rfl; have x4 : wc.cell? ⟨g, 4, none⟩ = some (.slice A n c) := HB0wc.out.cell 4 rfl; have x5 : wc.cell? ⟨g, 5, none⟩ = some (.slice A' n' c') := HB0wc.out.cell 5 rfl
    have y0 : wc.cell? ⟨g + 1, 0, none⟩ = some (.int .i64 q.k) := HB1wc.out.cell 0 rfl; have y1 : wc.cell? ⟨g + 1, 1, none⟩ = some (strV q.nm) := HB1wc.out.cell 1 rfl; have y2 : wc.cell? ⟨g + 1, 2, none⟩ = some (strV q.to) := HB1wc.out.cell 2 rfl; have y3 : wc.cell? ⟨g + 1, 3, none⟩ = some (.int .i64 q.h.pos) := HB1wc.out.cell 3 rfl; have y4 : wc.cell? ⟨g + 1, 4, none⟩ = some (.slice D m k) := HB1wc.out.cell 4 rfl; have y5 : wc.cell? ⟨g + 1, 5, none⟩ = some (.slice D' m' k') := HB1wc.out.cell 5 rfl
    go_wp2_with fail
    clear x0 x1 x2 x3 x4 x5 y0 y1 y2 y3 y4 y5
    refine (Meet A n c A' n' c' D m k D' m' k' p q wc ba HBA.out).mono ?_
    rintro e w4 ⟨rfl, hb⟩
    have HVw4 := Lib.hid (HVwc.out.mv hb); have GVw4 := Lib.hid (GVwc.out.mv hb); clear HVwc GVwc
    have HWw4 := Lib.hid (HWwc.out.trans (hb.mono HGwc.out)); have HGw4 := Lib.hid (Nat.le_trans HGwc.out hb.size)
    have HB0w4 := Lib.hid (HB0wc.out.below hb HB0wc.out.lt); have HB1w4 := Lib.hid (HB1wc.out.below hb HB1wc.out.lt); have HB2w4 := Lib.hid (HB2wc.out.below hb HB2wc.out.lt); have HB3w4 := Lib.hid (HB3wc.out.below hb HB3wc.out.lt); have HBTw4 := Lib.hid (HBTwc.out.below hb HBTwc.out.lt); have HBUw4 := Lib.hid (HBUwc.out.below hb HBUwc.out.lt)
    clear hb HWwc HGwc HB0wc HB1wc HB2wc HB3wc HBTwc HBUwc
    have x0 : w4.cell? ⟨g, 0, none⟩ = some (.int .i64 p.k) := HB0w4.out.cell 0 rfl; have x1 : w4.cell? ⟨g, 1, none⟩ = some (strV p.nm) := HB0w4.out.cell 1 rfl; have x2 : w4.cell? ⟨g, 2, none⟩ = some (strV p.to) := HB0w4.out.cell 2 rfl; have x3 : w4.cell? ⟨g, 3, none⟩ = some (.int .i64 p.h.pos) := HB0w4.out.cell 3 rfl; have x4 : w4.cell? ⟨g, 4, none⟩ = some (.slice A n c) := HB0w4.out.cell 4 rfl; have x5 : w4.cell? ⟨g, 5, none⟩ = some (.slice A' n' c') := HB0w4.out.cell 5 rfl
    have y0 : w4.cell? ⟨g + 1, 0, none⟩ = some (.int .i64 q.k) := HB1w4.out.cell 0 rfl; have y1 : w4.cell? ⟨g + 1, 1, none⟩ = some (strV q.nm) := HB1w4.out.cell 1 rfl; have y2 : w4.cell? ⟨g + 1, 2, none⟩ = some (strV q.to) := HB1w4.out.cell 2 rfl; have y3 : w4.cell? ⟨g + 1, 3, none⟩ = some (.int .i64 q.h.pos) := HB1w4.out.cell 3 rfl; have y4 : w4.cell? ⟨g + 1, 4, none⟩ = some (.slice D m k) := HB1w4.out.cell 4 rfl; have y5 : w4.cell? ⟨g + 1, 5, none⟩ = some (.slice D' m' k') := HB1w4.out.cell 5 rfl
    cases ba with
    | true =>
      go_wp2_with fail
      go_meet
      exact ⟨_, _, D, m, k, D', m', k', A, n, c, A', n', c', (passP_ap HBP.out HBQ.out HBA.out), HBTw4.out, HBUw4.out, HB2w4.out, HB3w4.out, GVw4.out, HVw4.out, GL.out, HL.out, HWw4.out⟩
    | false =>
    by_cases h3 : p.k = 3 ∧ q.k = 3
    · have e1 : (p.k == 3) = true := by simpa using h3.1
      have e2 : (q.k == 3) = true := by simpa using h3.2
      have H3 := Lib.hid h3; clear h3
      go_wp2_with fail
      clear x0 x1 x2 x3 x4 x5 y0 y1 y2 y3 y4 y5
      refine (Sw.PassHi A n c A' n' c' D m k D' m' k' w4.heap.size p.h q.h w4 (Nat.le_refl _) HL.out.1 HL.out.2 GL.out.1 GL.out.2 HVw4.out.h GVw4.out.h).mono ?_
      rintro e w5 hend
      have hb : Below w4.heap.size w4 w5 := by obtain ⟨_, _, _, _, _, _, _, _, _, _, _, _, _, _, _, _, hb⟩ := hend; exact hb
      cases hz : Sw.passH p.h q.h with
      | none =>
        have HN : Hid (passP p q = none) := Lib.hid (by rw [passP_b HBP.out HBQ.out HBA.out H3.out.1 H3.out.2, hz]; rfl)
        have hz0 : Sw.outH (Sw.passH p.h q.h) = (Sw.zeroH, Sw.zeroH) := by rw [hz]; rfl
        obtain ⟨E1, i1, j1, E2, i2, j2, G1, k1, l1, G2, k2, l2, he, v1, v2, hhi, _⟩ := hend
        clear v1 v2 hhi
        rw [hz0, hz] at he
        have he' : e = .returned (.tuple #[Hk.hkV 0 E1 i1 j1 E2 i2 j2, Hk.hkV 0 G1 k1 l1 G2 k2 l2, .bool false]) := he
        clear he
        subst he'
        clear hz hz0
        have HVw5 := Lib.hid (HVw4.out.mv hb); have GVw5 := Lib.hid (GVw4.out.mv hb); clear HVw4 GVw4
        have HWw5 := Lib.hid (HWw4.out.trans (hb.mono HGw4.out)); have HGw5 := Lib.hid (Nat.le_trans HGw4.out hb.size)
        have HB0w5 := Lib.hid (HB0w4.out.below hb HB0w4.out.lt); have HB1w5 := Lib.hid (HB1w4.out.below hb HB1w4.out.lt); have HB2w5 := Lib.hid (HB2w4.out.below hb HB2w4.out.lt); have HB3w5 := Lib.hid (HB3w4.out.below hb HB3w4.out.lt); have HBTw5 := Lib.hid (HBTw4.out.below hb HBTw4.out.lt); have HBUw5 := Lib.hid (HBUw4.out.below hb HBUw4.out.lt)
        clear hb HWw4 HGw4 HB0w4 HB1w4 HB2w4 HB3w4 HBTw4 HBUw4
        go_upto_region 10 with fail
        have hb : Below w5.heap.size w5 ((w5.alloc (.cells #[.int .i64 0, .slice E1 i1 j1, .slice E2 i2 j2] 49)).alloc (.cells #[.int .i64 0, .slice G1 k1 l1, .slice G2 k2 l2] 49)) := two_box _ _ _
        have HBX := Lib.hid ((Blk.new w5 49 #[.int .i64 0, .slice E1 i1 j1, .slice E2 i2 j2]).alloc (.cells #[.int .i64 0, .slice G1 k1 l1, .slice G2 k2 l2] 49))
        have hby := Blk.new (w5.alloc (.cells #[.int .i64 0, .slice E1 i1 j1, .slice E2 i2 j2] 49)) 49 #[.int .i64 0, .slice G1 k1 l1, .slice G2 k2 l2]
        simp only [World.size_alloc] at hby
        have HBY := Lib.hid hby
        clear hby
        have HVw6 := Lib.hid (HVw5.out.mv hb); have GVw6 := Lib.hid (GVw5.out.mv hb); clear HVw5 GVw5
        have HG5 := Lib.hid (show T < w5.heap.size ∧ U < w5.heap.size from ⟨HBTw5.out.lt, HBUw5.out.lt⟩)
        have HWw6 := Lib.hid (HWw5.out.trans (hb.mono HGw5.out)); have HGw6 := Lib.hid (Nat.le_trans HGw5.out hb.size)
        have HB0w6 := Lib.hid (HB0w5.out.below hb HB0w5.out.lt); have HB1w6 := Lib.hid (HB1w5.out.below hb HB1w5.out.lt); have HB2w6 := Lib.hid (HB2w5.out.below hb HB2w5.out.lt); have HB3w6 := Lib.hid (HB3w5.out.below hb HB3w5.out.lt); have HBTw6 := Lib.hid (HBTw5.out.below hb HBTw5.out.lt); have HBUw6 := Lib.hid (HBUw5.out.below hb HBUw5.out.lt)
        clear hb HWw5 HGw5 HB0w5 HB1w5 HB2w5 HB3w5 HBTw5 HBUw5
        generalize ((w5.alloc (.cells #[.int .i64 0, .slice E1 i1 j1, .slice E2 i2 j2] 49)).alloc (.cells #[.int .i64 0, .slice G1 k1 l1, .slice G2 k2 l2] 49)) = w6 at *
        generalize w5.heap.size = g5 at *
        have x0 : w6.cell? ⟨g, 0, none⟩ = some (.int .i64 p.k) := HB0w6.out.cell 0 rfl; have x1 : w6.cell? ⟨g, 1, none⟩ = some (strV p.nm) := HB0w6.out.cell 1 rfl; have x2 : w6.cell? ⟨g, 2, none⟩ = some (strV p.to) := HB0w6.out.cell 2 rfl; have x3 : w6.cell? ⟨g, 3, none⟩ = some (.int .i64 p.h.pos) := HB0w6.out.cell 3 rfl; have x4 : w6.cell? ⟨g, 4, none⟩ = some (.slice A n c) := HB0w6.out.cell 4 rfl; have x5 : w6.cell? ⟨g, 5, none⟩ = some (.slice A' n' c') := HB0w6.out.cell 5 rfl
        have y0 : w6.cell? ⟨g + 1, 0, none⟩ = some (.int .i64 q.k) := HB1w6.out.cell 0 rfl; have y1 : w6.cell? ⟨g + 1, 1, none⟩ = some (strV q.nm) := HB1w6.out.cell 1 rfl; have y2 : w6.cell? ⟨g + 1, 2, none⟩ = some (strV q.to) := HB1w6.out.cell 2 rfl; have y3 : w6.cell? ⟨g + 1, 3, none⟩ = some (.int .i64 q.h.pos) := HB1w6.out.cell 3 rfl; have y4 : w6.cell? ⟨g + 1, 4, none⟩ = some (.slice D m k) := HB1w6.out.cell 4 rfl; have y5 : w6.cell? ⟨g + 1, 5, none⟩ = some (.slice D' m' k') := HB1w6.out.cell 5 rfl
        have e3 := name_ne HBP.out HBQ.out (.inl H3.out.1)
        have e4 : (q.k == 2) = false := by rw [beq_eq_false_iff_ne]; have := H3.out.2; omega
        have u0 : w6.cell? ⟨g + 2, 0, none⟩ = some (.int .i64 0) := HB2w6.out.cell 0 rfl; have u1 : w6.cell? ⟨g + 2, 1, none⟩ = some (strV []) := HB2w6.out.cell 1 rfl; have u2 : w6.cell? ⟨g + 2, 2, none⟩ = some (strV []) := HB2w6.out.cell 2 rfl; have u3 : w6.cell? ⟨g + 2, 3, none⟩ = some (.int .i64 0) := HB2w6.out.cell 3 rfl; have u4 : w6.cell? ⟨g + 2, 4, none⟩ = some (.slice none 0 0) := HB2w6.out.cell 4 rfl; have u5 : w6.cell? ⟨g + 2, 5, none⟩ = some (.slice none 0 0) := HB2w6.out.cell 5 rfl
        have v0 : w6.cell? ⟨g + 3, 0, none⟩ = some (.int .i64 0) := HB3w6.out.cell 0 rfl; have v1 : w6.cell? ⟨g + 3, 1, none⟩ = some (strV []) := HB3w6.out.cell 1 rfl; have v2 : w6.cell? ⟨g + 3, 2, none⟩ = some (strV []) := HB3w6.out.cell 2 rfl; have v3 : w6.cell? ⟨g + 3, 3, none⟩ = some (.int .i64 0) := HB3w6.out.cell 3 rfl; have v4 : w6.cell? ⟨g + 3, 4, none⟩ = some (.slice none 0 0) := HB3w6.out.cell 4 rfl; have v5 : w6.cell? ⟨g + 3, 5, none⟩ = some (.slice none 0 0) := HB3w6.out.cell 5 rfl
        have f0 : w6.frozen? ⟨g + 2, 0, none⟩ = false := HB2w6.out.frozen 0; have f1 : w6.frozen? ⟨g + 2, 1, none⟩ = false := HB2w6.out.frozen 1; have f2 : w6.frozen? ⟨g + 2, 2, none⟩ = false := HB2w6.out.frozen 2; have f3 : w6.frozen? ⟨g + 2, 3, none⟩ = false := HB2w6.out.frozen 3; have f4 : w6.frozen? ⟨g + 2, 4, none⟩ = false := HB2w6.out.frozen 4; have f5 : w6.frozen? ⟨g + 2, 5, none⟩ = false := HB2w6.out.frozen 5
        have h0 : w6.frozen? ⟨g + 3, 0, none⟩ = false := HB3w6.out.frozen 0; have h1 : w6.frozen? ⟨g + 3, 1, none⟩ = false := HB3w6.out.frozen 1; have h2 : w6.frozen? ⟨g + 3, 2, none⟩ = false := HB3w6.out.frozen 2; have h3 : w6.frozen? ⟨g + 3, 3, none⟩ = false := HB3w6.out.frozen 3; have h4 : w6.frozen? ⟨g + 3, 4, none⟩ = false := HB3w6.out.frozen 4; have h5 : w6.frozen? ⟨g + 3, 5, none⟩ = false := HB3w6.out.frozen 5
        go_wp2_with fail
        obtain ⟨z2, z3⟩ := two_set6 HB2w6.out HB3w6.out (by omega) (.int .i64 0) (strV []) (strV []) (.int .i64 0) (.slice none 0 0) (.slice none 0 0) (.int .i64 0) (strV []) (strV []) (.int .i64 0) (.slice none 0 0) (.slice none 0 0)
        have hb6 := below_set12 (b := g + 2) (b' := g + 3) HWw6.out (by omega) (by omega) (.int .i64 0) (strV []) (strV []) (.int .i64 0) (.slice none 0 0) (.slice none 0 0) (.int .i64 0) (strV []) (strV []) (.int .i64 0) (.slice none 0 0) (.slice none 0 0)
        generalize (World.setCell (World.setCell (World.setCell (World.setCell (World.setCell (World.setCell (World.setCell (World.setCell (World.setCell (World.setCell (World.setCell (World.setCell w6 ⟨g + 2, 0, none⟩ (.int .i64 0)) ⟨g + 2, 1, none⟩ (strV [])) ⟨g + 2, 2, none⟩ (strV [])) ⟨g + 2, 3, none⟩ (.int .i64 0)) ⟨g + 2, 4, none⟩ (.slice none 0 0)) ⟨g + 2, 5, none⟩ (.slice none 0 0)) ⟨g + 3, 0, none⟩ (.int .i64 0)) ⟨g + 3, 1, none⟩ (strV [])) ⟨g + 3, 2, none⟩ (strV [])) ⟨g + 3, 3, none⟩ (.int .i64 0)) ⟨g + 3, 4, none⟩ (.slice none 0 0)) ⟨g + 3, 5, none⟩ (.slice none 0 0)) = W3 at *
        clear u0 u1 u2 u3 u4 u5 v0 v1 v2 v3 v4 v5 f0 f1 f2 f3 f4 f5 h0 h1 h2 h3 h4 h5
        have u0 : W3.cell? ⟨g + 2, 0, none⟩ = some (.int .i64 0) := z2.cell 0 rfl; have u1 : W3.cell? ⟨g + 2, 1, none⟩ = some (strV []) := z2.cell 1 rfl; have u2 : W3.cell? ⟨g + 2, 2, none⟩ = some (strV []) := z2.cell 2 rfl; have u3 : W3.cell? ⟨g + 2, 3, none⟩ = some (.int .i64 0) := z2.cell 3 rfl; have u4 : W3.cell? ⟨g + 2, 4, none⟩ = some (.slice none 0 0) := z2.cell 4 rfl; have u5 : W3.cell? ⟨g + 2, 5, none⟩ = some (.slice none 0 0) := z2.cell 5 rfl
        have v0 : W3.cell? ⟨g + 3, 0, none⟩ = some (.int .i64 0) := z3.cell 0 rfl; have v1 : W3.cell? ⟨g + 3, 1, none⟩ = some (strV []) := z3.cell 1 rfl; have v2 : W3.cell? ⟨g + 3, 2, none⟩ = some (strV []) := z3.cell 2 rfl; have v3 : W3.cell? ⟨g + 3, 3, none⟩ = some (.int .i64 0) := z3.cell 3 rfl; have v4 : W3.cell? ⟨g + 3, 4, none⟩ = some (.slice none 0 0) := z3.cell 4 rfl; have v5 : W3.cell? ⟨g + 3, 5, none⟩ = some (.slice none 0 0) := z3.cell 5 rfl
        try rw [Exit.noGoto_ret]
        refine bodyPost_ret (v := .tuple #[.agg #[.int .i64 0, strV [], strV [], .int .i64 0, .slice none 0 0, .slice none 0 0], .agg #[.int .i64 0, strV [], strV [], .int .i64 0, .slice none 0 0, .slice none 0 0], .bool false]) (by simp [results, Try.results55, go_sem, u0, v0, u1, v1, u2, v2, u3, v3, u4, v4, u5, v5]) rfl ?_
        have hW : Below w.heap.size w W3 := by rw [HGS.out]; exact hb6
        exact ppEndH_none HO.out HBB.out HN.out hW
      | some z =>
        obtain ⟨hx, hy⟩ := z
        have HS : Hid (passP p q = some (⟨q.k, q.nm, q.to, hx⟩, ⟨p.k, p.nm, p.to, hy⟩)) := Lib.hid (by rw [passP_b HBP.out HBQ.out HBA.out H3.out.1 H3.out.2, hz]; rfl)
        have hz0 : Sw.outH (Sw.passH p.h q.h) = (hx, hy) := by rw [hz]; rfl
        obtain ⟨E1, i1, j1, E2, i2, j2, G1, k1, l1, G2, k2, l2, he, v1, v2, hhi, _⟩ := hend
        rw [hz0, hz] at he
        rw [hz0] at v1 v2
        have he' : e = .returned (.tuple #[Hk.hkV hx.pos E1 i1 j1 E2 i2 j2, Hk.hkV hy.pos G1 k1 l1 G2 k2 l2, .bool true]) := he
        replace v1 : HV w5 w5.heap.size E1 i1 j1 E2 i2 j2 hx := v1
        replace v2 : HV w5 w5.heap.size G1 k1 l1 G2 k2 l2 hy := v2
        clear he
        subst he'
        obtain ⟨_, r1, r2, r3, r4⟩ := Sw.pass_moves (x := hx) (y := hy) (Sw.passH_may hz).2.2.1
        have gl2 : (i1 ≤ 1000 ∧ i2 ≤ 1000) ∧ (k1 ≤ 1000 ∧ k2 ≤ 1000) := by
          have a1 := v1.l; have a2 := v1.l'; have a3 := v2.l; have a4 := v2.l'
          have b1 := GV0.out.h.l; have b2 := GV0.out.h.l'; have b3 := HV0.out.h.l; have b4 := HV0.out.h.l'
          have c1 := HL.out; have c2 := GL.out
          rw [r1] at a1; rw [r2] at a2; rw [r3] at a3; rw [r4] at a4
          omega
        have GL2 := Lib.hid gl2
        have V1 : Hid (PV w5 w5.heap.size E1 i1 j1 E2 i2 j2 ⟨q.k, q.nm, q.to, hx⟩) := Lib.hid (GV0.out.hunk v1 r1 r2)
        have V2 : Hid (PV w5 w5.heap.size G1 k1 l1 G2 k2 l2 ⟨p.k, p.nm, p.to, hy⟩) := Lib.hid (HV0.out.hunk v2 r3 r4)
        have hhi1 : Hi w4.heap.size E1 ∧ Hi w4.heap.size E2 ∧ Hi w4.heap.size G1 ∧ Hi w4.heap.size G2 := hhi
        have HHI := Lib.hid (And.intro hhi1 (And.intro HBTw4.out.lt HBUw4.out.lt))
        clear hz hz0 r1 r2 r3 r4 v1 v2 gl2 hhi hhi1
        have HVw5 := Lib.hid (HVw4.out.mv hb); have GVw5 := Lib.hid (GVw4.out.mv hb); clear HVw4 GVw4
        have HWw5 := Lib.hid (HWw4.out.trans (hb.mono HGw4.out)); have HGw5 := Lib.hid (Nat.le_trans HGw4.out hb.size)
        have HB0w5 := Lib.hid (HB0w4.out.below hb HB0w4.out.lt); have HB1w5 := Lib.hid (HB1w4.out.below hb HB1w4.out.lt); have HB2w5 := Lib.hid (HB2w4.out.below hb HB2w4.out.lt); have HB3w5 := Lib.hid (HB3w4.out.below hb HB3w4.out.lt); have HBTw5 := Lib.hid (HBTw4.out.below hb HBTw4.out.lt); have HBUw5 := Lib.hid (HBUw4.out.below hb HBUw4.out.lt)
        clear hb HWw4 HGw4 HB0w4 HB1w4 HB2w4 HB3w4 HBTw4 HBUw4
        go_upto_region 10 with fail
        have hb : Below w5.heap.size w5 ((w5.alloc (.cells #[.int .i64 hx.pos, .slice E1 i1 j1, .slice E2 i2 j2] 49)).alloc (.cells #[.int .i64 hy.pos, .slice G1 k1 l1, .slice G2 k2 l2] 49)) := two_box _ _ _
        have HBX := Lib.hid ((Blk.new w5 49 #[.int .i64 hx.pos, .slice E1 i1 j1, .slice E2 i2 j2]).alloc (.cells #[.int .i64 hy.pos, .slice G1 k1 l1, .slice G2 k2 l2] 49))
        have hby := Blk.new (w5.alloc (.cells #[.int .i64 hx.pos, .slice E1 i1 j1, .slice E2 i2 j2] 49)) 49 #[.int .i64 hy.pos, .slice G1 k1 l1, .slice G2 k2 l2]
        simp only [World.size_alloc] at hby
        have HBY := Lib.hid hby
        clear hby
        have HVw6 := Lib.hid (HVw5.out.mv hb); have GVw6 := Lib.hid (GVw5.out.mv hb); clear HVw5 GVw5
        have HG5 := Lib.hid (show T < w5.heap.size ∧ U < w5.heap.size from ⟨HBTw5.out.lt, HBUw5.out.lt⟩)
        have V1w6 := Lib.hid (V1.out.mv hb); have V2w6 := Lib.hid (V2.out.mv hb); clear V1 V2
        have HWw6 := Lib.hid (HWw5.out.trans (hb.mono HGw5.out)); have HGw6 := Lib.hid (Nat.le_trans HGw5.out hb.size)
        have HB0w6 := Lib.hid (HB0w5.out.below hb HB0w5.out.lt); have HB1w6 := Lib.hid (HB1w5.out.below hb HB1w5.out.lt); have HB2w6 := Lib.hid (HB2w5.out.below hb HB2w5.out.lt); have HB3w6 := Lib.hid (HB3w5.out.below hb HB3w5.out.lt); have HBTw6 := Lib.hid (HBTw5.out.below hb HBTw5.out.lt); have HBUw6 := Lib.hid (HBUw5.out.below hb HBUw5.out.lt)
        clear hb HWw5 HGw5 HB0w5 HB1w5 HB2w5 HB3w5 HBTw5 HBUw5
        generalize ((w5.alloc (.cells #[.int .i64 hx.pos, .slice E1 i1 j1, .slice E2 i2 j2] 49)).alloc (.cells #[.int .i64 hy.pos, .slice G1 k1 l1, .slice G2 k2 l2] 49)) = w6 at *
        generalize w5.heap.size = g5 at *
        have a0 : w6.cell? ⟨g5, 0, none⟩ = some (.int .i64 hx.pos) := HBX.out.cell 0 rfl; have a1 : w6.cell? ⟨g5, 1, none⟩ = some (.slice E1 i1 j1) := HBX.out.cell 1 rfl; have a2 : w6.cell? ⟨g5, 2, none⟩ = some (.slice E2 i2 j2) := HBX.out.cell 2 rfl
        have b0 : w6.cell? ⟨g5 + 1, 0, none⟩ = some (.int .i64 hy.pos) := HBY.out.cell 0 rfl; have b1 : w6.cell? ⟨g5 + 1, 1, none⟩ = some (.slice G1 k1 l1) := HBY.out.cell 1 rfl; have b2 : w6.cell? ⟨g5 + 1, 2, none⟩ = some (.slice G2 k2 l2) := HBY.out.cell 2 rfl
        have t0 : w6.cell? ⟨T, 0, none⟩ = some (.int .i64 q.k) := HBTw6.out.cell 0 rfl; have t1 : w6.cell? ⟨T, 1, none⟩ = some (strV q.nm) := HBTw6.out.cell 1 rfl; have t2 : w6.cell? ⟨T, 2, none⟩ = some (strV q.to) := HBTw6.out.cell 2 rfl; have t3 : w6.cell? ⟨T, 3, none⟩ = some (.int .i64 q.h.pos) := HBTw6.out.cell 3 rfl; have t4 : w6.cell? ⟨T, 4, none⟩ = some (.slice D m k) := HBTw6.out.cell 4 rfl; have t5 : w6.cell? ⟨T, 5, none⟩ = some (.slice D' m' k') := HBTw6.out.cell 5 rfl
        have s0 : w6.cell? ⟨U, 0, none⟩ = some (.int .i64 p.k) := HBUw6.out.cell 0 rfl; have s1 : w6.cell? ⟨U, 1, none⟩ = some (strV p.nm) := HBUw6.out.cell 1 rfl; have s2 : w6.cell? ⟨U, 2, none⟩ = some (strV p.to) := HBUw6.out.cell 2 rfl; have s3 : w6.cell? ⟨U, 3, none⟩ = some (.int .i64 p.h.pos) := HBUw6.out.cell 3 rfl; have s4 : w6.cell? ⟨U, 4, none⟩ = some (.slice A n c) := HBUw6.out.cell 4 rfl; have s5 : w6.cell? ⟨U, 5, none⟩ = some (.slice A' n' c') := HBUw6.out.cell 5 rfl
        have k3 : w6.frozen? ⟨T, 3, none⟩ = false := HBTw6.out.frozen 3; have k4 : w6.frozen? ⟨T, 4, none⟩ = false := HBTw6.out.frozen 4; have k5 : w6.frozen? ⟨T, 5, none⟩ = false := HBTw6.out.frozen 5
        have l3 : w6.frozen? ⟨U, 3, none⟩ = false := HBUw6.out.frozen 3; have l4 : w6.frozen? ⟨U, 4, none⟩ = false := HBUw6.out.frozen 4; have l5 : w6.frozen? ⟨U, 5, none⟩ = false := HBUw6.out.frozen 5
        have hn1 := HNE.out; have hn2 := HNE.out.symm; have hg5 := HG5.out.1; have hg6 := HG5.out.2
        go_upto_region 11 with fail
        go_region
        go_wp2_with fail
        have HBTw7 := Lib.hid (three_set (b' := U) (blk3 HBTw6.out (.int .i64 hx.pos) (.slice E1 i1 j1) (.slice E2 i2 j2)) HNE.out (.int .i64 hy.pos) (.slice G1 k1 l1) (.slice G2 k2 l2))
        have HBUw7 := Lib.hid (blk3 (three_set (b' := T) HBUw6.out HNE.out.symm (.int .i64 hx.pos) (.slice E1 i1 j1) (.slice E2 i2 j2)) (.int .i64 hy.pos) (.slice G1 k1 l1) (.slice G2 k2 l2))
        have HB2w7 := Lib.hid (three_set (b' := U) (three_set (b' := T) HB2w6.out (by have := HgT.out; omega) (.int .i64 hx.pos) (.slice E1 i1 j1) (.slice E2 i2 j2)) (by have := HgT.out; omega) (.int .i64 hy.pos) (.slice G1 k1 l1) (.slice G2 k2 l2))
        have HB3w7 := Lib.hid (three_set (b' := U) (three_set (b' := T) HB3w6.out (by have := HgT.out; omega) (.int .i64 hx.pos) (.slice E1 i1 j1) (.slice E2 i2 j2)) (by have := HgT.out; omega) (.int .i64 hy.pos) (.slice G1 k1 l1) (.slice G2 k2 l2))
        have HP1 : Hid (PV (World.setCell (World.setCell (World.setCell (World.setCell (World.setCell (World.setCell w6 ⟨T, 3, none⟩ (.int .i64 hx.pos)) ⟨T, 4, none⟩ (.slice E1 i1 j1)) ⟨T, 5, none⟩ (.slice E2 i2 j2)) ⟨U, 3, none⟩ (.int .i64 hy.pos)) ⟨U, 4, none⟩ (.slice G1 k1 l1)) ⟨U, 5, none⟩ (.slice G2 k2 l2)) w6.heap.size E1 i1 j1 E2 i2 j2 ⟨q.k, q.nm, q.to, hx⟩) := Lib.hid ((((((V1w6.out.hi HHI.out.1.1 HHI.out.1.2.1 HHI.out.2.1 3 _).hi HHI.out.1.1 HHI.out.1.2.1 HHI.out.2.1 4 _).hi HHI.out.1.1 HHI.out.1.2.1 HHI.out.2.1 5 _).hi HHI.out.1.1 HHI.out.1.2.1 HHI.out.2.2 3 _).hi HHI.out.1.1 HHI.out.1.2.1 HHI.out.2.2 4 _).hi HHI.out.1.1 HHI.out.1.2.1 HHI.out.2.2 5 _)
        have HP2 : Hid (PV (World.setCell (World.setCell (World.setCell (World.setCell (World.setCell (World.setCell w6 ⟨T, 3, none⟩ (.int .i64 hx.pos)) ⟨T, 4, none⟩ (.slice E1 i1 j1)) ⟨T, 5, none⟩ (.slice E2 i2 j2)) ⟨U, 3, none⟩ (.int .i64 hy.pos)) ⟨U, 4, none⟩ (.slice G1 k1 l1)) ⟨U, 5, none⟩ (.slice G2 k2 l2)) w6.heap.size G1 k1 l1 G2 k2 l2 ⟨p.k, p.nm, p.to, hy⟩) := Lib.hid ((((((V2w6.out.hi HHI.out.1.2.2.1 HHI.out.1.2.2.2 HHI.out.2.1 3 _).hi HHI.out.1.2.2.1 HHI.out.1.2.2.2 HHI.out.2.1 4 _).hi HHI.out.1.2.2.1 HHI.out.1.2.2.2 HHI.out.2.1 5 _).hi HHI.out.1.2.2.1 HHI.out.1.2.2.2 HHI.out.2.2 3 _).hi HHI.out.1.2.2.1 HHI.out.1.2.2.2 HHI.out.2.2 4 _).hi HHI.out.1.2.2.1 HHI.out.1.2.2.2 HHI.out.2.2 5 _)
        have HWw7 : Hid (Below g w (World.setCell (World.setCell (World.setCell (World.setCell (World.setCell (World.setCell w6 ⟨T, 3, none⟩ (.int .i64 hx.pos)) ⟨T, 4, none⟩ (.slice E1 i1 j1)) ⟨T, 5, none⟩ (.slice E2 i2 j2)) ⟨U, 3, none⟩ (.int .i64 hy.pos)) ⟨U, 4, none⟩ (.slice G1 k1 l1)) ⟨U, 5, none⟩ (.slice G2 k2 l2))) := Lib.hid ((((((HWw6.out.setCell (p := ⟨T, 3, none⟩) (by have := HgT.out; show g ≤ T; omega) (.int .i64 hx.pos)).setCell (p := ⟨T, 4, none⟩) (by have := HgT.out; show g ≤ T; omega) (.slice E1 i1 j1)).setCell (p := ⟨T, 5, none⟩) (by have := HgT.out; show g ≤ T; omega) (.slice E2 i2 j2)).setCell (p := ⟨U, 3, none⟩) (by have := HgT.out; show g ≤ U; omega) (.int .i64 hy.pos)).setCell (p := ⟨U, 4, none⟩) (by have := HgT.out; show g ≤ U; omega) (.slice G1 k1 l1)).setCell (p := ⟨U, 5, none⟩) (by have := HgT.out; show g ≤ U; omega) (.slice G2 k2 l2))
        have HSZ : Hid ((World.setCell (World.setCell (World.setCell (World.setCell (World.setCell (World.setCell w6 ⟨T, 3, none⟩ (.int .i64 hx.pos)) ⟨T, 4, none⟩ (.slice E1 i1 j1)) ⟨T, 5, none⟩ (.slice E2 i2 j2)) ⟨U, 3, none⟩ (.int .i64 hy.pos)) ⟨U, 4, none⟩ (.slice G1 k1 l1)) ⟨U, 5, none⟩ (.slice G2 k2 l2)).heap.size = w6.heap.size) := Lib.hid (by simp)
        go_meet
        first
          | (exact ⟨_, _, E1, i1, j1, E2, i2, j2, G1, k1, l1, G2, k2, l2, HS.out, (HBTw7.out.drewN 1), (HBUw7.out.drewN 1), (HB2w7.out.drewN 1), (HB3w7.out.drewN 1), ((HP1.out.drewN 1)).up (Nat.le_of_eq HSZ.out.symm), ((HP2.out.drewN 1)).up (Nat.le_of_eq HSZ.out.symm), GL2.out.1, GL2.out.2, (below_drewN HWw7.out 1)⟩)
          | (exact ⟨_, _, E1, i1, j1, E2, i2, j2, G1, k1, l1, G2, k2, l2, HS.out, HBTw7.out, HBUw7.out, HB2w7.out, HB3w7.out, (HP1.out).up (Nat.le_of_eq HSZ.out.symm), (HP2.out).up (Nat.le_of_eq HSZ.out.symm), GL2.out.1, GL2.out.2, HWw7.out⟩)
    by_cases hi : q.k = 2 ∧ (p.k = 3 ∨ p.k = 4) ∧ p.nm = q.nm
    · have e4 : (q.k == 2) = true := by simpa using hi.1
      have e5 : (q.nm == p.nm) = true := by simpa using hi.2.2.symm
      have e6 : (q.k == 3) = false := by rw [beq_eq_false_iff_ne]; have := hi.1; omega
      have HS : Hid (passP p q = some (q, ⟨p.k, q.to, p.to, p.h⟩)) := Lib.hid (passP_i HBP.out HBQ.out HBA.out hi.1 hi.2.1 hi.2.2)
      have HI := Lib.hid hi
      clear hi h3
      have s0 : w4.cell? ⟨U, 0, none⟩ = some (.int .i64 p.k) := HBUw4.out.cell 0 rfl; have s1 : w4.cell? ⟨U, 1, none⟩ = some (strV p.nm) := HBUw4.out.cell 1 rfl; have s2 : w4.cell? ⟨U, 2, none⟩ = some (strV p.to) := HBUw4.out.cell 2 rfl; have s3 : w4.cell? ⟨U, 3, none⟩ = some (.int .i64 p.h.pos) := HBUw4.out.cell 3 rfl; have s4 : w4.cell? ⟨U, 4, none⟩ = some (.slice A n c) := HBUw4.out.cell 4 rfl; have s5 : w4.cell? ⟨U, 5, none⟩ = some (.slice A' n' c') := HBUw4.out.cell 5 rfl
      have l1 : w4.frozen? ⟨U, 1, none⟩ = false := HBUw4.out.frozen 1
      have HBUw6 := Lib.hid (show Blk (World.setCell w4 ⟨U, 1, none⟩ (strV q.to)) U 51 #[.int .i64 p.k, strV q.to, strV p.to, .int .i64 p.h.pos, .slice A n c, .slice A' n' c'] from HBUw4.out.set 1 (strV q.to))
      have HBTw6 := Lib.hid (HBTw4.out.set_ne HNE.out 1 (strV q.to))
      have HB2w6 := Lib.hid (HB2w4.out.set_ne (show g + 2 ≠ U from by have := HgT.out; omega) 1 (strV q.to))
      have HB3w6 := Lib.hid (HB3w4.out.set_ne (show g + 3 ≠ U from by have := HgT.out; omega) 1 (strV q.to))
      have HWw6 := Lib.hid (HWw4.out.setCell (p := ⟨U, 1, none⟩) (by have := HgT.out; show g ≤ U; omega) (strV q.to))
      have hw6 : Below w.heap.size w (World.setCell w4 ⟨U, 1, none⟩ (strV q.to)) := by rw [HGS.out]; exact HWw6.out
      have HP1 := Lib.hid (GV0.out.mv hw6); have HP2 := Lib.hid ((HV0.out.mv hw6).name q.to GV0.out.to)
      clear hw6
      rcases (show (p.k == 3) = true ∨ (p.k == 3) = false ∧ (p.k == 4) = true from by
        rcases HI.out.2.1 with h | h
        · exact .inl (by simpa using h)
        · exact .inr ⟨by rw [beq_eq_false_iff_ne]; omega, by simpa using h⟩) with e1 | ⟨e1, e2⟩
      all_goals
        go_wp2_with fail
        go_meet
        exact ⟨_, _, D, m, k, D', m', k', A, n, c, A', n', c', HS.out, HBTw6.out, HBUw6.out, HB2w6.out, HB3w6.out, HP1.out, HP2.out, GL.out, HL.out, HWw6.out⟩
    by_cases ho : p.k = 2 ∧ (q.k = 3 ∨ q.k = 4) ∧ q.nm = p.to
    · have e1 : (p.k == 3) = false := by rw [beq_eq_false_iff_ne]; have := ho.1; omega
      have e2 : (p.k == 4) = false := by rw [beq_eq_false_iff_ne]; have := ho.1; omega
      have e3 : (p.k == 2) = true := by simpa using ho.1
      have e5 : (q.nm == p.to) = true := by simpa using ho.2.2
      have HS : Hid (passP p q = some (⟨q.k, p.nm, q.to, q.h⟩, p)) := Lib.hid (passP_o HBP.out HBQ.out HBA.out ho.1 ho.2.1 ho.2.2)
      have HO1 := Lib.hid ho
      clear hi ho h3
      have t0 : w4.cell? ⟨T, 0, none⟩ = some (.int .i64 q.k) := HBTw4.out.cell 0 rfl; have t1 : w4.cell? ⟨T, 1, none⟩ = some (strV q.nm) := HBTw4.out.cell 1 rfl; have t2 : w4.cell? ⟨T, 2, none⟩ = some (strV q.to) := HBTw4.out.cell 2 rfl; have t3 : w4.cell? ⟨T, 3, none⟩ = some (.int .i64 q.h.pos) := HBTw4.out.cell 3 rfl; have t4 : w4.cell? ⟨T, 4, none⟩ = some (.slice D m k) := HBTw4.out.cell 4 rfl; have t5 : w4.cell? ⟨T, 5, none⟩ = some (.slice D' m' k') := HBTw4.out.cell 5 rfl
      have l1 : w4.frozen? ⟨T, 1, none⟩ = false := HBTw4.out.frozen 1
      have HBTw6 := Lib.hid (show Blk (World.setCell w4 ⟨T, 1, none⟩ (strV p.nm)) T 51 #[.int .i64 q.k, strV p.nm, strV q.to, .int .i64 q.h.pos, .slice D m k, .slice D' m' k'] from HBTw4.out.set 1 (strV p.nm))
      have HBUw6 := Lib.hid (HBUw4.out.set_ne HNE.out.symm 1 (strV p.nm))
      have HB2w6 := Lib.hid (HB2w4.out.set_ne (show g + 2 ≠ T from by have := HgT.out; omega) 1 (strV p.nm))
      have HB3w6 := Lib.hid (HB3w4.out.set_ne (show g + 3 ≠ T from by have := HgT.out; omega) 1 (strV p.nm))
      have HWw6 := Lib.hid (HWw4.out.setCell (p := ⟨T, 1, none⟩) (by have := HgT.out; show g ≤ T; omega) (strV p.nm))
      have hw6 : Below w.heap.size w (World.setCell w4 ⟨T, 1, none⟩ (strV p.nm)) := by rw [HGS.out]; exact HWw6.out
      have HP1 := Lib.hid ((GV0.out.mv hw6).name p.nm HV0.out.nm); have HP2 := Lib.hid (HV0.out.mv hw6)
      clear hw6
      rcases (show (q.k == 3) = true ∨ (q.k == 3) = false ∧ (q.k == 4) = true from by
        rcases HO1.out.2.1 with h | h
        · exact .inl (by simpa using h)
        · exact .inr ⟨by rw [beq_eq_false_iff_ne]; omega, by simpa using h⟩) with e6 | ⟨e6, e7⟩
      all_goals
        go_wp2_with fail
        go_meet
        exact ⟨_, _, D, m, k, D', m', k', A, n, c, A', n', c', HS.out, HBTw6.out, HBUw6.out, HB2w6.out, HB3w6.out, HP1.out, HP2.out, GL.out, HL.out, HWw6.out⟩
    have HN : Hid (passP p q = none) := Lib.hid (passP_n HBA.out h3 ho hi)
    have hw : ((p.k == 3) = true ∧ (q.k == 3) = false ∨ (p.k == 3) = false ∧ (p.k == 4) = true) ∧ (q.nm == p.to) = false ∧ ((q.k == 2) = false ∨ (q.k == 2) = true ∧ (q.nm == p.nm) = false) ∨
        ((p.k == 3) = false ∧ (p.k == 4) = false) ∧ (p.k == 2) = true ∧ ((q.k == 3) = false ∧ (q.k == 4) = false ∨ (q.nm == p.to) = false) ∨
        (p.k == 3) = false ∧ (p.k == 4) = false ∧ (p.k == 2) = false := by
      by_cases k3 : p.k = 3 ∨ p.k = 4
      · refine .inl ⟨?_, name_ne HBP.out HBQ.out k3, ?_⟩
        · rcases k3 with k3 | k3
          · exact .inl ⟨by simpa using k3, by rw [beq_eq_false_iff_ne]; exact fun h => h3 ⟨k3, h⟩⟩
          · exact .inr ⟨by rw [beq_eq_false_iff_ne]; omega, by simpa using k3⟩
        · by_cases k2 : q.k = 2
          · exact .inr ⟨by simpa using k2, by rw [beq_eq_false_iff_ne]; exact fun h => hi ⟨k2, k3, h.symm⟩⟩
          · exact .inl (by simpa using k2)
      · have a3 : (p.k == 3) = false := by rw [beq_eq_false_iff_ne]; omega
        have a4 : (p.k == 4) = false := by rw [beq_eq_false_iff_ne]; omega
        by_cases k2 : p.k = 2
        · refine .inr (.inl ⟨⟨a3, a4⟩, by simpa using k2, ?_⟩)
          by_cases kq : q.k = 3 ∨ q.k = 4
          · exact .inr (by rw [beq_eq_false_iff_ne]; exact fun h => ho ⟨k2, kq, h⟩)
          · exact .inl ⟨by rw [beq_eq_false_iff_ne]; omega, by rw [beq_eq_false_iff_ne]; omega⟩
        · exact .inr (.inr ⟨a3, a4, by simpa using k2⟩)
    clear h3 ho hi
    have HWAY := Lib.hid hw; clear hw
    have hq3 : ∀ z : Bool, z = true ∨ z = false := fun z => by cases z <;> simp
    have HQ3 := Lib.hid (hq3 (q.k == 3)); have HQ4 := Lib.hid (hq3 (q.k == 4)); clear hq3
    rcases HWAY.out with ⟨h1, e5, h2⟩ | ⟨⟨e1, e2⟩, e3, h2⟩ | ⟨e1, e2, e3⟩
    · rcases h1 with ⟨e1, e2⟩ | ⟨e1, e2⟩ <;> rcases h2 with e6 | ⟨e6, e7⟩ <;> rcases HQ3.out with c1 | c1 <;> rcases HQ4.out with c2 | c2 <;> try (exfalso; first | exact Bool.false_ne_true (e2.symm.trans c1) | exact k_absurd c1 c2 | exact k_absurd2 c1 e6 | exact k_absurd3 c2 e6; done)
      all_goals
        have u0 : w4.cell? ⟨g + 2, 0, none⟩ = some (.int .i64 0) := HB2w4.out.cell 0 rfl; have u1 : w4.cell? ⟨g + 2, 1, none⟩ = some (strV []) := HB2w4.out.cell 1 rfl; have u2 : w4.cell? ⟨g + 2, 2, none⟩ = some (strV []) := HB2w4.out.cell 2 rfl; have u3 : w4.cell? ⟨g + 2, 3, none⟩ = some (.int .i64 0) := HB2w4.out.cell 3 rfl; have u4 : w4.cell? ⟨g + 2, 4, none⟩ = some (.slice none 0 0) := HB2w4.out.cell 4 rfl; have u5 : w4.cell? ⟨g + 2, 5, none⟩ = some (.slice none 0 0) := HB2w4.out.cell 5 rfl
        have v0 : w4.cell? ⟨g + 3, 0, none⟩ = some (.int .i64 0) := HB3w4.out.cell 0 rfl; have v1 : w4.cell? ⟨g + 3, 1, none⟩ = some (strV []) := HB3w4.out.cell 1 rfl; have v2 : w4.cell? ⟨g + 3, 2, none⟩ = some (strV []) := HB3w4.out.cell 2 rfl; have v3 : w4.cell? ⟨g + 3, 3, none⟩ = some (.int .i64 0) := HB3w4.out.cell 3 rfl; have v4 : w4.cell? ⟨g + 3, 4, none⟩ = some (.slice none 0 0) := HB3w4.out.cell 4 rfl; have v5 : w4.cell? ⟨g + 3, 5, none⟩ = some (.slice none 0 0) := HB3w4.out.cell 5 rfl
        have f0 : w4.frozen? ⟨g + 2, 0, none⟩ = false := HB2w4.out.frozen 0; have f1 : w4.frozen? ⟨g + 2, 1, none⟩ = false := HB2w4.out.frozen 1; have f2 : w4.frozen? ⟨g + 2, 2, none⟩ = false := HB2w4.out.frozen 2; have f3 : w4.frozen? ⟨g + 2, 3, none⟩ = false := HB2w4.out.frozen 3; have f4 : w4.frozen? ⟨g + 2, 4, none⟩ = false := HB2w4.out.frozen 4; have f5 : w4.frozen? ⟨g + 2, 5, none⟩ = false := HB2w4.out.frozen 5
        have h0 : w4.frozen? ⟨g + 3, 0, none⟩ = false := HB3w4.out.frozen 0; have h1 : w4.frozen? ⟨g + 3, 1, none⟩ = false := HB3w4.out.frozen 1; have h2 : w4.frozen? ⟨g + 3, 2, none⟩ = false := HB3w4.out.frozen 2; have h3 : w4.frozen? ⟨g + 3, 3, none⟩ = false := HB3w4.out.frozen 3; have h4 : w4.frozen? ⟨g + 3, 4, none⟩ = false := HB3w4.out.frozen 4; have h5 : w4.frozen? ⟨g + 3, 5, none⟩ = false := HB3w4.out.frozen 5
        go_wp2_with fail
        obtain ⟨z2, z3⟩ := two_set6 HB2w4.out HB3w4.out (by omega) (.int .i64 0) (strV []) (strV []) (.int .i64 0) (.slice none 0 0) (.slice none 0 0) (.int .i64 0) (strV []) (strV []) (.int .i64 0) (.slice none 0 0) (.slice none 0 0)
        have hb6 := below_set12 (b := g + 2) (b' := g + 3) HWw4.out (by omega) (by omega) (.int .i64 0) (strV []) (strV []) (.int .i64 0) (.slice none 0 0) (.slice none 0 0) (.int .i64 0) (strV []) (strV []) (.int .i64 0) (.slice none 0 0) (.slice none 0 0)
        generalize (World.setCell (World.setCell (World.setCell (World.setCell (World.setCell (World.setCell (World.setCell (World.setCell (World.setCell (World.setCell (World.setCell (World.setCell w4 ⟨g + 2, 0, none⟩ (.int .i64 0)) ⟨g + 2, 1, none⟩ (strV [])) ⟨g + 2, 2, none⟩ (strV [])) ⟨g + 2, 3, none⟩ (.int .i64 0)) ⟨g + 2, 4, none⟩ (.slice none 0 0)) ⟨g + 2, 5, none⟩ (.slice none 0 0)) ⟨g + 3, 0, none⟩ (.int .i64 0)) ⟨g + 3, 1, none⟩ (strV [])) ⟨g + 3, 2, none⟩ (strV [])) ⟨g + 3, 3, none⟩ (.int .i64 0)) ⟨g + 3, 4, none⟩ (.slice none 0 0)) ⟨g + 3, 5, none⟩ (.slice none 0 0)) = W3 at *
        clear u0 u1 u2 u3 u4 u5 v0 v1 v2 v3 v4 v5 f0 f1 f2 f3 f4 f5 h0 h1 h2 h3 h4 h5
        have u0 : W3.cell? ⟨g + 2, 0, none⟩ = some (.int .i64 0) := z2.cell 0 rfl; have u1 : W3.cell? ⟨g + 2, 1, none⟩ = some (strV []) := z2.cell 1 rfl; have u2 : W3.cell? ⟨g + 2, 2, none⟩ = some (strV []) := z2.cell 2 rfl; have u3 : W3.cell? ⟨g + 2, 3, none⟩ = some (.int .i64 0) := z2.cell 3 rfl; have u4 : W3.cell? ⟨g + 2, 4, none⟩ = some (.slice none 0 0) := z2.cell 4 rfl; have u5 : W3.cell? ⟨g + 2, 5, none⟩ = some (.slice none 0 0) := z2.cell 5 rfl
        have v0 : W3.cell? ⟨g + 3, 0, none⟩ = some (.int .i64 0) := z3.cell 0 rfl; have v1 : W3.cell? ⟨g + 3, 1, none⟩ = some (strV []) := z3.cell 1 rfl; have v2 : W3.cell? ⟨g + 3, 2, none⟩ = some (strV []) := z3.cell 2 rfl; have v3 : W3.cell? ⟨g + 3, 3, none⟩ = some (.int .i64 0) := z3.cell 3 rfl; have v4 : W3.cell? ⟨g + 3, 4, none⟩ = some (.slice none 0 0) := z3.cell 4 rfl; have v5 : W3.cell? ⟨g + 3, 5, none⟩ = some (.slice none 0 0) := z3.cell 5 rfl
        try rw [Exit.noGoto_ret]
        refine bodyPost_ret (v := .tuple #[.agg #[.int .i64 0, strV [], strV [], .int .i64 0, .slice none 0 0, .slice none 0 0], .agg #[.int .i64 0, strV [], strV [], .int .i64 0, .slice none 0 0, .slice none 0 0], .bool false]) (by simp [results, Try.results55, go_sem, u0, v0, u1, v1, u2, v2, u3, v3, u4, v4, u5, v5]) rfl ?_
        have hW : Below w.heap.size w W3 := by rw [HGS.out]; exact hb6
        exact ppEndH_none HO.out HBB.out HN.out hW
    · rcases HQ3.out with c1 | c1 <;> rcases HQ4.out with c2 | c2 <;> rcases h2 with ⟨e5, e6⟩ | e5 <;> try (exfalso; first | exact Bool.false_ne_true (e5.symm.trans c1) | exact Bool.false_ne_true (e6.symm.trans c2) | exact k_absurd c1 c2; done)
      all_goals
        have u0 : w4.cell? ⟨g + 2, 0, none⟩ = some (.int .i64 0) := HB2w4.out.cell 0 rfl; have u1 : w4.cell? ⟨g + 2, 1, none⟩ = some (strV []) := HB2w4.out.cell 1 rfl; have u2 : w4.cell? ⟨g + 2, 2, none⟩ = some (strV []) := HB2w4.out.cell 2 rfl; have u3 : w4.cell? ⟨g + 2, 3, none⟩ = some (.int .i64 0) := HB2w4.out.cell 3 rfl; have u4 : w4.cell? ⟨g + 2, 4, none⟩ = some (.slice none 0 0) := HB2w4.out.cell 4 rfl; have u5 : w4.cell? ⟨g + 2, 5, none⟩ = some (.slice none 0 0) := HB2w4.out.cell 5 rfl
        have v0 : w4.cell? ⟨g + 3, 0, none⟩ = some (.int .i64 0) := HB3w4.out.cell 0 rfl; have v1 : w4.cell? ⟨g + 3, 1, none⟩ = some (strV []) := HB3w4.out.cell 1 rfl; have v2 : w4.cell? ⟨g + 3, 2, none⟩ = some (strV []) := HB3w4.out.cell 2 rfl; have v3 : w4.cell? ⟨g + 3, 3, none⟩ = some (.int .i64 0) := HB3w4.out.cell 3 rfl; have v4 : w4.cell? ⟨g + 3, 4, none⟩ = some (.slice none 0 0) := HB3w4.out.cell 4 rfl; have v5 : w4.cell? ⟨g + 3, 5, none⟩ = some (.slice none 0 0) := HB3w4.out.cell 5 rfl
        have f0 : w4.frozen? ⟨g + 2, 0, none⟩ = false := HB2w4.out.frozen 0; have f1 : w4.frozen? ⟨g + 2, 1, none⟩ = false := HB2w4.out.frozen 1; have f2 : w4.frozen? ⟨g + 2, 2, none⟩ = false := HB2w4.out.frozen 2; have f3 : w4.frozen? ⟨g + 2, 3, none⟩ = false := HB2w4.out.frozen 3; have f4 : w4.frozen? ⟨g + 2, 4, none⟩ = false := HB2w4.out.frozen 4; have f5 : w4.frozen? ⟨g + 2, 5, none⟩ = false := HB2w4.out.frozen 5
        have h0 : w4.frozen? ⟨g + 3, 0, none⟩ = false := HB3w4.out.frozen 0; have h1 : w4.frozen? ⟨g + 3, 1, none⟩ = false := HB3w4.out.frozen 1; have h2 : w4.frozen? ⟨g + 3, 2, none⟩ = false := HB3w4.out.frozen 2; have h3 : w4.frozen? ⟨g + 3, 3, none⟩ = false := HB3w4.out.frozen 3; have h4 : w4.frozen? ⟨g + 3, 4, none⟩ = false := HB3w4.out.frozen 4; have h5 : w4.frozen? ⟨g + 3, 5, none⟩ = false := HB3w4.out.frozen 5
        go_wp2_with fail
        obtain ⟨z2, z3⟩ := two_set6 HB2w4.out HB3w4.out (by omega) (.int .i64 0) (strV []) (strV []) (.int .i64 0) (.slice none 0 0) (.slice none 0 0) (.int .i64 0) (strV []) (strV []) (.int .i64 0) (.slice none 0 0) (.slice none 0 0)
        have hb6 := below_set12 (b := g + 2) (b' := g + 3) HWw4.out (by omega) (by omega) (.int .i64 0) (strV []) (strV []) (.int .i64 0) (.slice none 0 0) (.slice none 0 0) (.int .i64 0) (strV []) (strV []) (.int .i64 0) (.slice none 0 0) (.slice none 0 0)
        generalize (World.setCell (World.setCell (World.setCell (World.setCell (World.setCell (World.setCell (World.setCell (World.setCell (World.setCell (World.setCell (World.setCell (World.setCell w4 ⟨g + 2, 0, none⟩ (.int .i64 0)) ⟨g + 2, 1, none⟩ (strV [])) ⟨g + 2, 2, none⟩ (strV [])) ⟨g + 2, 3, none⟩ (.int .i64 0)) ⟨g + 2, 4, none⟩ (.slice none 0 0)) ⟨g + 2, 5, none⟩ (.slice none 0 0)) ⟨g + 3, 0, none⟩ (.int .i64 0)) ⟨g + 3, 1, none⟩ (strV [])) ⟨g + 3, 2, none⟩ (strV [])) ⟨g + 3, 3, none⟩ (.int .i64 0)) ⟨g + 3, 4, none⟩ (.slice none 0 0)) ⟨g + 3, 5, none⟩ (.slice none 0 0)) = W3 at *
        clear u0 u1 u2 u3 u4 u5 v0 v1 v2 v3 v4 v5 f0 f1 f2 f3 f4 f5 h0 h1 h2 h3 h4 h5
        have u0 : W3.cell? ⟨g + 2, 0, none⟩ = some (.int .i64 0) := z2.cell 0 rfl; have u1 : W3.cell? ⟨g + 2, 1, none⟩ = some (strV []) := z2.cell 1 rfl; have u2 : W3.cell? ⟨g + 2, 2, none⟩ = some (strV []) := z2.cell 2 rfl; have u3 : W3.cell? ⟨g + 2, 3, none⟩ = some (.int .i64 0) := z2.cell 3 rfl; have u4 : W3.cell? ⟨g + 2, 4, none⟩ = some (.slice none 0 0) := z2.cell 4 rfl; have u5 : W3.cell? ⟨g + 2, 5, none⟩ = some (.slice none 0 0) := z2.cell 5 rfl
        have v0 : W3.cell? ⟨g + 3, 0, none⟩ = some (.int .i64 0) := z3.cell 0 rfl; have v1 : W3.cell? ⟨g + 3, 1, none⟩ = some (strV []) := z3.cell 1 rfl; have v2 : W3.cell? ⟨g + 3, 2, none⟩ = some (strV []) := z3.cell 2 rfl; have v3 : W3.cell? ⟨g + 3, 3, none⟩ = some (.int .i64 0) := z3.cell 3 rfl; have v4 : W3.cell? ⟨g + 3, 4, none⟩ = some (.slice none 0 0) := z3.cell 4 rfl; have v5 : W3.cell? ⟨g + 3, 5, none⟩ = some (.slice none 0 0) := z3.cell 5 rfl
        try rw [Exit.noGoto_ret]
        refine bodyPost_ret (v := .tuple #[.agg #[.int .i64 0, strV [], strV [], .int .i64 0, .slice none 0 0, .slice none 0 0], .agg #[.int .i64 0, strV [], strV [], .int .i64 0, .slice none 0 0, .slice none 0 0], .bool false]) (by simp [results, Try.results55, go_sem, u0, v0, u1, v1, u2, v2, u3, v3, u4, v4, u5, v5]) rfl ?_
        have hW : Below w.heap.size w W3 := by rw [HGS.out]; exact hb6
        exact ppEndH_none HO.out HBB.out HN.out hW
    ·
      have u0 : w4.cell? ⟨g + 2, 0, none⟩ = some (.int .i64 0) := HB2w4.out.cell 0 rfl; have u1 : w4.cell? ⟨g + 2, 1, none⟩ = some (strV []) := HB2w4.out.cell 1 rfl; have u2 : w4.cell? ⟨g + 2, 2, none⟩ = some (strV []) := HB2w4.out.cell 2 rfl; have u3 : w4.cell? ⟨g + 2, 3, none⟩ = some (.int .i64 0) := HB2w4.out.cell 3 rfl; have u4 : w4.cell? ⟨g + 2, 4, none⟩ = some (.slice none 0 0) := HB2w4.out.cell 4 rfl; have u5 : w4.cell? ⟨g + 2, 5, none⟩ = some (.slice none 0 0) := HB2w4.out.cell 5 rfl
      have v0 : w4.cell? ⟨g + 3, 0, none⟩ = some (.int .i64 0) := HB3w4.out.cell 0 rfl; have v1 : w4.cell? ⟨g + 3, 1, none⟩ = some (strV []) := HB3w4.out.cell 1 rfl; have v2 : w4.cell? ⟨g + 3, 2, none⟩ = some (strV []) := HB3w4.out.cell 2 rfl; have v3 : w4.cell? ⟨g + 3, 3, none⟩ = some (.int .i64 0) := HB3w4.out.cell 3 rfl; have v4 : w4.cell? ⟨g + 3, 4, none⟩ = some (.slice none 0 0) := HB3w4.out.cell 4 rfl; have v5 : w4.cell? ⟨g + 3, 5, none⟩ = some (.slice none 0 0) := HB3w4.out.cell 5 rfl
      have f0 : w4.frozen? ⟨g + 2, 0, none⟩ = false := HB2w4.out.frozen 0; have f1 : w4.frozen? ⟨g + 2, 1, none⟩ = false := HB2w4.out.frozen 1; have f2 : w4.frozen? ⟨g + 2, 2, none⟩ = false := HB2w4.out.frozen 2; have f3 : w4.frozen? ⟨g + 2, 3, none⟩ = false := HB2w4.out.frozen 3; have f4 : w4.frozen? ⟨g + 2, 4, none⟩ = false := HB2w4.out.frozen 4; have f5 : w4.frozen? ⟨g + 2, 5, none⟩ = false := HB2w4.out.frozen 5
      have h0 : w4.frozen? ⟨g + 3, 0, none⟩ = false := HB3w4.out.frozen 0; have h1 : w4.frozen? ⟨g + 3, 1, none⟩ = false := HB3w4.out.frozen 1; have h2 : w4.frozen? ⟨g + 3, 2, none⟩ = false := HB3w4.out.frozen 2; have h3 : w4.frozen? ⟨g + 3, 3, none⟩ = false := HB3w4.out.frozen 3; have h4 : w4.frozen? ⟨g + 3, 4, none⟩ = false := HB3w4.out.frozen 4; have h5 : w4.frozen? ⟨g + 3, 5, none⟩ = false := HB3w4.out.frozen 5
      go_wp2_with fail
      obtain ⟨z2, z3⟩ := two_set6 HB2w4.out HB3w4.out (by omega) (.int .i64 0) (strV []) (strV []) (.int .i64 0) (.slice none 0 0) (.slice none 0 0) (.int .i64 0) (strV []) (strV []) (.int .i64 0) (.slice none 0 0) (.slice none 0 0)
      have hb6 := below_set12 (b := g + 2) (b' := g + 3) HWw4.out (by omega) (by omega) (.int .i64 0) (strV []) (strV []) (.int .i64 0) (.slice none 0 0) (.slice none 0 0) (.int .i64 0) (strV []) (strV []) (.int .i64 0) (.slice none 0 0) (.slice none 0 0)
      generalize (World.setCell (World.setCell (World.setCell (World.setCell (World.setCell (World.setCell (World.setCell (World.setCell (World.setCell (World.setCell (World.setCell (World.setCell w4 ⟨g + 2, 0, none⟩ (.int .i64 0)) ⟨g + 2, 1, none⟩ (strV [])) ⟨g + 2, 2, none⟩ (strV [])) ⟨g + 2, 3, none⟩ (.int .i64 0)) ⟨g + 2, 4, none⟩ (.slice none 0 0)) ⟨g + 2, 5, none⟩ (.slice none 0 0)) ⟨g + 3, 0, none⟩ (.int .i64 0)) ⟨g + 3, 1, none⟩ (strV [])) ⟨g + 3, 2, none⟩ (strV [])) ⟨g + 3, 3, none⟩ (.int .i64 0)) ⟨g + 3, 4, none⟩ (.slice none 0 0)) ⟨g + 3, 5, none⟩ (.slice none 0 0)) = W3 at *
      clear u0 u1 u2 u3 u4 u5 v0 v1 v2 v3 v4 v5 f0 f1 f2 f3 f4 f5 h0 h1 h2 h3 h4 h5
      have u0 : W3.cell? ⟨g + 2, 0, none⟩ = some (.int .i64 0) := z2.cell 0 rfl; have u1 : W3.cell? ⟨g + 2, 1, none⟩ = some (strV []) := z2.cell 1 rfl; have u2 : W3.cell? ⟨g + 2, 2, none⟩ = some (strV []) := z2.cell 2 rfl; have u3 : W3.cell? ⟨g + 2, 3, none⟩ = some (.int .i64 0) := z2.cell 3 rfl; have u4 : W3.cell? ⟨g + 2, 4, none⟩ = some (.slice none 0 0) := z2.cell 4 rfl; have u5 : W3.cell? ⟨g + 2, 5, none⟩ = some (.slice none 0 0) := z2.cell 5 rfl
      have v0 : W3.cell? ⟨g + 3, 0, none⟩ = some (.int .i64 0) := z3.cell 0 rfl; have v1 : W3.cell? ⟨g + 3, 1, none⟩ = some (strV []) := z3.cell 1 rfl; have v2 : W3.cell? ⟨g + 3, 2, none⟩ = some (strV []) := z3.cell 2 rfl; have v3 : W3.cell? ⟨g + 3, 3, none⟩ = some (.int .i64 0) := z3.cell 3 rfl; have v4 : W3.cell? ⟨g + 3, 4, none⟩ = some (.slice none 0 0) := z3.cell 4 rfl; have v5 : W3.cell? ⟨g + 3, 5, none⟩ = some (.slice none 0 0) := z3.cell 5 rfl
      try rw [Exit.noGoto_ret]
      refine bodyPost_ret (v := .tuple #[.agg #[.int .i64 0, strV [], strV [], .int .i64 0, .slice none 0 0, .slice none 0 0], .agg #[.int .i64 0, strV [], strV [], .int .i64 0, .slice none 0 0, .slice none 0 0], .bool false]) (by simp [results, Try.results55, go_sem, u0, v0, u1, v1, u2, v2, u3, v3, u4, v4, u5, v5]) rfl ?_
      have hW : Below w.heap.size w W3 := by rw [HGS.out]; exact hb6
      exact ppEndH_none HO.out HBB.out HN.out hW
  case rest =>
  obtain ⟨x1, y1, A1, n1, c1, B1, m1, d1, A2, n2, c2, B2, m2, d2, hs, bt, bu, b2, b3, v1, v2, hl, gl, hw⟩ := hcut
  have HS := Lib.hid hs; have CT := Lib.hid bt; have CU := Lib.hid bu; have C2 := Lib.hid b2; have C3 := Lib.hid b3; have V1 := Lib.hid v1; have V2 := Lib.hid v2; have HL2 := Lib.hid hl; have GL2 := Lib.hid gl; have HW := Lib.hid hw
  clear hs bt bu b2 b3 v1 v2 hl gl hw
  clear HBTwc HBUwc HVwc GVwc HWwc HGwc HB0wc HB1wc HB2wc HB3wc
  skip
  have PX : Hid (∀ W, Below wc.heap.size wc W → Calls Try.prog 66 #[prV x1.k x1.nm x1.to x1.h.pos A1 n1 c1 B1 m1 d1] W (fun e u' => ∃ P p1 Q q1, e = .returned (prV x1.k x1.nm x1.to x1.h.pos P n1 p1 Q m1 q1) ∧ PV u' u'.heap.size P n1 p1 Q m1 q1 x1 ∧ (Hi W.heap.size P ∧ Hi W.heap.size Q) ∧ Below W.heap.size W u')) := Lib.hid (fun W hb => OwnC A1 n1 c1 B1 m1 d1 wc.heap.size x1 W hb.size HL2.out.1 HL2.out.2 (V1.out.below hb))
  have PY : Hid (∀ W, Below wc.heap.size wc W → Calls Try.prog 66 #[prV y1.k y1.nm y1.to y1.h.pos A2 n2 c2 B2 m2 d2] W (fun e u' => ∃ P p1 Q q1, e = .returned (prV y1.k y1.nm y1.to y1.h.pos P n2 p1 Q m2 q1) ∧ PV u' u'.heap.size P n2 p1 Q m2 q1 y1 ∧ (Hi W.heap.size P ∧ Hi W.heap.size Q) ∧ Below W.heap.size W u')) := Lib.hid (fun W hb => OwnC A2 n2 c2 B2 m2 d2 wc.heap.size y1 W hb.size GL2.out.1 GL2.out.2 (V2.out.below hb))
  have HSB : Hid (∀ W, Blk W T 51 #[.int .i64 x1.k, strV x1.nm, strV x1.to, .int .i64 x1.h.pos, .slice A1 n1 c1, .slice B1 m1 d1] → Blk W U 51 #[.int .i64 y1.k, strV y1.nm, strV y1.to, .int .i64 y1.h.pos, .slice A2 n2 c2, .slice B2 m2 d2] → W.cell? ⟨T, 0, none⟩ = some (.int .i64 x1.k) ∧ W.cell? ⟨T, 1, none⟩ = some (strV x1.nm) ∧ W.cell? ⟨T, 2, none⟩ = some (strV x1.to) ∧ W.cell? ⟨T, 3, none⟩ = some (.int .i64 x1.h.pos) ∧ W.cell? ⟨T, 4, none⟩ = some (.slice A1 n1 c1) ∧ W.cell? ⟨T, 5, none⟩ = some (.slice B1 m1 d1) ∧ W.cell? ⟨U, 0, none⟩ = some (.int .i64 y1.k) ∧ W.cell? ⟨U, 1, none⟩ = some (strV y1.nm) ∧ W.cell? ⟨U, 2, none⟩ = some (strV y1.to) ∧ W.cell? ⟨U, 3, none⟩ = some (.int .i64 y1.h.pos) ∧ W.cell? ⟨U, 4, none⟩ = some (.slice A2 n2 c2) ∧ W.cell? ⟨U, 5, none⟩ = some (.slice B2 m2 d2)) := Lib.hid (fun W b b' => by
    exact ⟨b.cell 0 rfl, b.cell 1 rfl, b.cell 2 rfl, b.cell 3 rfl, b.cell 4 rfl, b.cell 5 rfl, b'.cell 0 rfl, b'.cell 1 rfl, b'.cell 2 rfl, b'.cell 3 rfl, b'.cell 4 rfl, b'.cell 5 rfl⟩)
  have HC : Hid (∀ W, Below wc.heap.size wc W → W.cell? ⟨T, 0, none⟩ = some (.int .i64 x1.k) ∧ W.cell? ⟨T, 1, none⟩ = some (strV x1.nm) ∧ W.cell? ⟨T, 2, none⟩ = some (strV x1.to) ∧ W.cell? ⟨T, 3, none⟩ = some (.int .i64 x1.h.pos) ∧ W.cell? ⟨T, 4, none⟩ = some (.slice A1 n1 c1) ∧ W.cell? ⟨T, 5, none⟩ = some (.slice B1 m1 d1) ∧ W.cell? ⟨U, 0, none⟩ = some (.int .i64 y1.k) ∧ W.cell? ⟨U, 1, none⟩ = some (strV y1.nm) ∧ W.cell? ⟨U, 2, none⟩ = some (strV y1.to) ∧ W.cell? ⟨U, 3, none⟩ = some (.int .i64 y1.h.pos) ∧ W.cell? ⟨U, 4, none⟩ = some (.slice A2 n2 c2) ∧ W.cell? ⟨U, 5, none⟩ = some (.slice B2 m2 d2)) := Lib.hid (fun W hb => HSB.out W (CT.out.below hb CT.out.lt) (CU.out.below hb CU.out.lt))
  have HNG := Lib.hid (show (T ≠ g + 2 ∧ T ≠ g + 3) ∧ (U ≠ g + 2 ∧ U ≠ g + 3) from by have := HgT.out; omega)
  have HKD := Lib.hid (HC.out wc.drew (below_drewN (Below.refl _ _) 1))
  obtain ⟨x0, xx1, x2, x3, x4, x5, y0, yy1, y2, y3, y4, y5⟩ := HC.out wc (Below.refl _ _)
  go_wp2_with fail
  go_region_held3 (fun W => W.cell? ⟨T, 0, none⟩ = some (.int .i64 x1.k) ∧ W.cell? ⟨T, 1, none⟩ = some (strV x1.nm) ∧ W.cell? ⟨T, 2, none⟩ = some (strV x1.to) ∧ W.cell? ⟨T, 3, none⟩ = some (.int .i64 x1.h.pos) ∧ W.cell? ⟨T, 4, none⟩ = some (.slice A1 n1 c1) ∧ W.cell? ⟨T, 5, none⟩ = some (.slice B1 m1 d1) ∧ W.cell? ⟨U, 0, none⟩ = some (.int .i64 y1.k) ∧ W.cell? ⟨U, 1, none⟩ = some (strV y1.nm) ∧ W.cell? ⟨U, 2, none⟩ = some (strV y1.to) ∧ W.cell? ⟨U, 3, none⟩ = some (.int .i64 y1.h.pos) ∧ W.cell? ⟨U, 4, none⟩ = some (.slice A2 n2 c2) ∧ W.cell? ⟨U, 5, none⟩ = some (.slice B2 m2 d2))
    (first | (with_reducible exact HKD.out) | (with_reducible exact hS5) | (with_reducible exact hS6) | (with_reducible exact HK2.out _ _ _ _ _ _) | (with_reducible exact HK3.out _ _ _ _ _ _ _ _ _ _ _ _))
    (first
      | (go_at_call 66; (with_reducible refine (PX.out wc.drew (below_drewN (Below.refl _ _) 1)).mono ?_); rintro e w5 ⟨P5, p5, Q5, q5, rfl, hv, hh, hb⟩; have HH5 := Lib.hid hh; clear hh; have hbu := (below_drewN (Below.refl wc.heap.size wc) 1).trans hb; have hS5 := HC.out w5 hbu; have HU5 := Lib.hid hbu; have HV5 := Lib.hid hv; clear hb hbu hv)
      | (go_at_call 66; (with_reducible refine (PY.out w5 HU5.out).mono ?_); rintro e w6 ⟨P6, p6, Q6, q6, rfl, hv, hh, hb⟩; have HH6 := Lib.hid hh; clear hh; have hbu := HU5.out.trans (hb.mono HU5.out.size); have hS6 := HC.out w6 hbu; have HU6 := Lib.hid hbu; have HV6 := Lib.hid hv; have HB6 := Lib.hid hb;
          have t6 := CT.out.below hbu CT.out.lt; have u6 := CU.out.below hbu CU.out.lt;
          have HK2 := Lib.hid (fun v0 v1 v2 v3 v4 v5 => HSB.out _ (blk_ne6 t6 HNG.out.1.1 v0 v1 v2 v3 v4 v5) (blk_ne6 u6 HNG.out.2.1 v0 v1 v2 v3 v4 v5));
          have HK3 := Lib.hid (fun v0 v1 v2 v3 v4 v5 u0 u1 u2 u3 u4 u5 => HSB.out _ (blk_ne6 (blk_ne6 t6 HNG.out.1.1 v0 v1 v2 v3 v4 v5) HNG.out.1.2 u0 u1 u2 u3 u4 u5) (blk_ne6 (blk_ne6 u6 HNG.out.2.1 v0 v1 v2 v3 v4 v5) HNG.out.2.2 u0 u1 u2 u3 u4 u5));
          clear t6 u6; have b2 := C2.out.below hbu C2.out.lt; have b3 := C3.out.below hbu C3.out.lt;
          have u0 : w6.cell? ⟨g + 2, 0, none⟩ = some (.int .i64 0) := b2.cell 0 rfl; have u1 : w6.cell? ⟨g + 2, 1, none⟩ = some (strV []) := b2.cell 1 rfl; have u2 : w6.cell? ⟨g + 2, 2, none⟩ = some (strV []) := b2.cell 2 rfl; have u3 : w6.cell? ⟨g + 2, 3, none⟩ = some (.int .i64 0) := b2.cell 3 rfl; have u4 : w6.cell? ⟨g + 2, 4, none⟩ = some (.slice none 0 0) := b2.cell 4 rfl; have u5 : w6.cell? ⟨g + 2, 5, none⟩ = some (.slice none 0 0) := b2.cell 5 rfl;
          have v0 : w6.cell? ⟨g + 3, 0, none⟩ = some (.int .i64 0) := b3.cell 0 rfl; have v1 : w6.cell? ⟨g + 3, 1, none⟩ = some (strV []) := b3.cell 1 rfl; have v2 : w6.cell? ⟨g + 3, 2, none⟩ = some (strV []) := b3.cell 2 rfl; have v3 : w6.cell? ⟨g + 3, 3, none⟩ = some (.int .i64 0) := b3.cell 3 rfl; have v4 : w6.cell? ⟨g + 3, 4, none⟩ = some (.slice none 0 0) := b3.cell 4 rfl; have v5 : w6.cell? ⟨g + 3, 5, none⟩ = some (.slice none 0 0) := b3.cell 5 rfl;
          have f0 : w6.frozen? ⟨g + 2, 0, none⟩ = false := b2.frozen 0; have f1 : w6.frozen? ⟨g + 2, 1, none⟩ = false := b2.frozen 1; have f2 : w6.frozen? ⟨g + 2, 2, none⟩ = false := b2.frozen 2; have f3 : w6.frozen? ⟨g + 2, 3, none⟩ = false := b2.frozen 3; have f4 : w6.frozen? ⟨g + 2, 4, none⟩ = false := b2.frozen 4; have f5 : w6.frozen? ⟨g + 2, 5, none⟩ = false := b2.frozen 5; have h0 : w6.frozen? ⟨g + 3, 0, none⟩ = false := b3.frozen 0; have h1 : w6.frozen? ⟨g + 3, 1, none⟩ = false := b3.frozen 1; have h2 : w6.frozen? ⟨g + 3, 2, none⟩ = false := b3.frozen 2; have h3 : w6.frozen? ⟨g + 3, 3, none⟩ = false := b3.frozen 3; have h4 : w6.frozen? ⟨g + 3, 4, none⟩ = false := b3.frozen 4; have h5 : w6.frozen? ⟨g + 3, 5, none⟩ = false := b3.frozen 5;
          have Z2 := Lib.hid b2; have Z3 := Lib.hid b3; clear hb hbu hv b2 b3))
  go_wp2_with fail
  have l3 := C3.out.lt
  have l5 : wc.heap.size ≤ w5.heap.size := HU5.out.size
  have i5 := HH5.out; have i6 := HH6.out
  have i5a : Hi wc.heap.size P5 := i5.1; have i5b : Hi wc.heap.size Q5 := i5.2
  have i6a := i6.1.mono l5; have i6b := i6.2.mono l5
  have pv5 := (((HV5.out.below HB6.out).up HB6.out.size).hi6 (b := g + 2) i5a i5b (by omega) (.int .i64 x1.k) (strV x1.nm) (strV x1.to) (.int .i64 x1.h.pos) (.slice P5 n1 p5) (.slice Q5 m1 q5)).hi6 (b := g + 3) i5a i5b (by omega) (.int .i64 y1.k) (strV y1.nm) (strV y1.to) (.int .i64 y1.h.pos) (.slice P6 n2 p6) (.slice Q6 m2 q6)
  have pv6 := (HV6.out.hi6 (b := g + 2) i6a i6b (by omega) (.int .i64 x1.k) (strV x1.nm) (strV x1.to) (.int .i64 x1.h.pos) (.slice P5 n1 p5) (.slice Q5 m1 q5)).hi6 (b := g + 3) i6a i6b (by omega) (.int .i64 y1.k) (strV y1.nm) (strV y1.to) (.int .i64 y1.h.pos) (.slice P6 n2 p6) (.slice Q6 m2 q6)
  obtain ⟨z2, z3⟩ := two_set6 Z2.out Z3.out (by omega) (.int .i64 x1.k) (strV x1.nm) (strV x1.to) (.int .i64 x1.h.pos) (.slice P5 n1 p5) (.slice Q5 m1 q5) (.int .i64 y1.k) (strV y1.nm) (strV y1.to) (.int .i64 y1.h.pos) (.slice P6 n2 p6) (.slice Q6 m2 q6)
  have hb6 := below_set12 (b := g + 2) (b' := g + 3) (HW.out.trans (HU6.out.mono (by have := HW.out.size; omega))) (by omega) (by omega) (.int .i64 x1.k) (strV x1.nm) (strV x1.to) (.int .i64 x1.h.pos) (.slice P5 n1 p5) (.slice Q5 m1 q5) (.int .i64 y1.k) (strV y1.nm) (strV y1.to) (.int .i64 y1.h.pos) (.slice P6 n2 p6) (.slice Q6 m2 q6)
  have hsz := (below_set12 (b := g + 2) (b' := g + 3) (Below.refl 0 w6) (by omega) (by omega) (.int .i64 x1.k) (strV x1.nm) (strV x1.to) (.int .i64 x1.h.pos) (.slice P5 n1 p5) (.slice Q5 m1 q5) (.int .i64 y1.k) (strV y1.nm) (strV y1.to) (.int .i64 y1.h.pos) (.slice P6 n2 p6) (.slice Q6 m2 q6)).size
  generalize (World.setCell (World.setCell (World.setCell (World.setCell (World.setCell (World.setCell (World.setCell (World.setCell (World.setCell (World.setCell (World.setCell (World.setCell w6 ⟨g + 2, 0, none⟩ (.int .i64 x1.k)) ⟨g + 2, 1, none⟩ (strV x1.nm)) ⟨g + 2, 2, none⟩ (strV x1.to)) ⟨g + 2, 3, none⟩ (.int .i64 x1.h.pos)) ⟨g + 2, 4, none⟩ (.slice P5 n1 p5)) ⟨g + 2, 5, none⟩ (.slice Q5 m1 q5)) ⟨g + 3, 0, none⟩ (.int .i64 y1.k)) ⟨g + 3, 1, none⟩ (strV y1.nm)) ⟨g + 3, 2, none⟩ (strV y1.to)) ⟨g + 3, 3, none⟩ (.int .i64 y1.h.pos)) ⟨g + 3, 4, none⟩ (.slice P6 n2 p6)) ⟨g + 3, 5, none⟩ (.slice Q6 m2 q6)) = W3 at *
  clear u0 u1 u2 u3 u4 u5 v0 v1 v2 v3 v4 v5 f0 f1 f2 f3 f4 f5 h0 h1 h2 h3 h4 h5
  have u0 : W3.cell? ⟨g + 2, 0, none⟩ = some (.int .i64 x1.k) := z2.cell 0 rfl; have u1 : W3.cell? ⟨g + 2, 1, none⟩ = some (strV x1.nm) := z2.cell 1 rfl; have u2 : W3.cell? ⟨g + 2, 2, none⟩ = some (strV x1.to) := z2.cell 2 rfl; have u3 : W3.cell? ⟨g + 2, 3, none⟩ = some (.int .i64 x1.h.pos) := z2.cell 3 rfl; have u4 : W3.cell? ⟨g + 2, 4, none⟩ = some (.slice P5 n1 p5) := z2.cell 4 rfl; have u5 : W3.cell? ⟨g + 2, 5, none⟩ = some (.slice Q5 m1 q5) := z2.cell 5 rfl
  have v0 : W3.cell? ⟨g + 3, 0, none⟩ = some (.int .i64 y1.k) := z3.cell 0 rfl; have v1 : W3.cell? ⟨g + 3, 1, none⟩ = some (strV y1.nm) := z3.cell 1 rfl; have v2 : W3.cell? ⟨g + 3, 2, none⟩ = some (strV y1.to) := z3.cell 2 rfl; have v3 : W3.cell? ⟨g + 3, 3, none⟩ = some (.int .i64 y1.h.pos) := z3.cell 3 rfl; have v4 : W3.cell? ⟨g + 3, 4, none⟩ = some (.slice P6 n2 p6) := z3.cell 4 rfl; have v5 : W3.cell? ⟨g + 3, 5, none⟩ = some (.slice Q6 m2 q6) := z3.cell 5 rfl
  try rw [Exit.noGoto_ret]
  refine bodyPost_ret (v := .tuple #[.agg #[.int .i64 x1.k, strV x1.nm, strV x1.to, .int .i64 x1.h.pos, .slice P5 n1 p5, .slice Q5 m1 q5], .agg #[.int .i64 y1.k, strV y1.nm, strV y1.to, .int .i64 y1.h.pos, .slice P6 n2 p6, .slice Q6 m2 q6], .bool true]) (by simp [results, Try.results55, go_sem, u0, v0, u1, v1, u2, v2, u3, v3, u4, v4, u5, v5]) rfl ?_
  have hg : w.heap.size ≤ wc.heap.size := by rw [HGS.out]; omega
  exact ppEndH_some HO.out HBB.out HS.out (pv5.up hsz) (pv6.up hsz) HL2.out GL2.out ⟨i5a.mono hg, i5b.mono hg, i6a.mono hg, i6b.mono hg⟩ (by rw [HGS.out]; exact hb6)

end Pr
end Go.Proofs.Ytbiiabfhngdeiaa

set_option maxRecDepth 100000
namespace Go.Proofs.Ytbiiabfhngdeiaa
open Go.RowKit
set_option linter.unusedVariables false
set_option linter.unusedSimpArgs false
namespace Fl
open Tx Df Sq Hk Tr Pr

/-- The cells of one change in a block of their own. -/
theorem one_srcP {W : World} {b : Nat} {A B : Option Addr} {n c m d : Nat} {x : Ch} (h : Blk W b 51 #[.int .i64 x.k, strV x.nm, strV x.to, .int .i64 x.h.pos, .slice A n c, .slice B m d]) :
    ∀ (j : Nat) u, [Value.int .i64 x.k, strV x.nm, strV x.to, .int .i64 x.h.pos, .slice A n c, .slice B m d][j]? = some u → W.cell? ((⟨b, 0, none⟩ : Addr).add j) = some u := fun j u hu => by
  rcases j with _ | _ | _ | _ | _ | _ | j
  · rw [add_zero']; exact h.cell 0 hu
  · exact h.cell 1 hu
  · exact h.cell 2 hu
  · exact h.cell 3 hu
  · exact h.cell 4 hu
  · exact h.cell 5 hu
  · simp at hu

end Fl
end Go.Proofs.Ytbiiabfhngdeiaa

set_option maxRecDepth 100000
namespace Go.Proofs.Ytbiiabfhngdeiaa
open Go.RowKit
set_option linter.unusedVariables false
set_option linter.unusedSimpArgs false
namespace Fl
open Tx Df Sq Hk Tr Pr

/-- How a copy of lines ends: in memory of its own. -/
def CopyLEnd (w : World) (n : Nat) (ls : List (List UInt8)) (e : Ending) (w' : World) : Prop :=
  ∃ D d, e = .returned (.slice D n d) ∧ n ≤ d ∧ RdS w' w'.heap.size D ls ∧ Hi w.heap.size D ∧ w.grownBy w' none

theorem ownLines (A : Option Addr) (n c B : Nat) (ls : List (List UInt8)) (w : World) (hn : ls.length = n) (hle : n ≤ 100000) (hB : B ≤ w.heap.size) (hR : RdS w B A ls) :
    Calls Try.prog 53 #[.slice A n c] w (CopyLEnd w n ls) := by
  obtain ⟨j0, hj, hy0, hy1, hy2⟩ := info_parts info_str
  have HR := Lib.hid hR; have HN := Lib.hid hn
  clear hR hn
  go_enter Try.func53, Try.ntmps53
  go_wp2_with (at_builtin; refine wpList_nil' rfl (.const (.slice none 0 0)) (.tmp 3) 47 rfl 9 j0 (.string ⟨#[]⟩) 16 Try.underlying47 hj hy0 hy1 hy2 rfl rfl B A n c (ls.map strV) rfl (by rw [List.length_map]; exact HN.out) HR.out (strs_one _) (by unfold maxLen; omega) (by omega) ?_; intro D1 d1 w1 hA hg; have HA := Lib.hid hA; have HG := Lib.hid hg; clear hA hg)
  go_ret
  obtain ⟨A', c', e, hc, hr⟩ := rd_of_own HA.out
  injection e with e1 e2 e3
  subst e1 e3
  exact ⟨D1, d1, rfl, hc, hr, hi_own HA.out, HG.out⟩

set_option maxHeartbeats 4000000 in
theorem EqualP (A : Option Addr) (n c : Nat) (A' : Option Addr) (n' c' : Nat) (l u : List Ch) (w : World) (b : Bool) (hn : l.length = n) (hn' : u.length = n') (hle : n ≤ 100000) (hR : RdP w (· < w.heap.size) A l) (hR' : RdP w (· < w.heap.size) A' u) (hb : listP l u = b) :
    Calls Try.prog 50 #[.slice A n c, .slice A' n' c', .func (.func 51) #[] #[]] w (BoolEnd w b) := by
  have HR := Lib.hid hR; have HR' := Lib.hid hR'; have HN := Lib.hid hn; have HN' := Lib.hid hn'
  have HB := Lib.hid hb.symm
  clear hR hR' hn hn' hb
  go_enter Try.func50, Try.ntmps50
  by_cases h0 : n = n'
  · subst h0
    go_wp2
    go_loopw [17] (fun i wr => ∃ k : Nat, k ≤ n ∧ i = .int .i64 (k : Int) ∧ l.take k = u.take k ∧ Below w.heap.size w wr) (fun i _ => n - (intOf i).toNat)
    case atStart => exact ⟨0, Nat.zero_le _, rfl, rfl, Below.refl _ _⟩
    case round =>
      obtain ⟨k, hk, rfl, hall, hbw⟩ := hrel
      have HBW := Lib.hid hbw; have HAL := Lib.hid hall; clear hbw hall
      by_cases hlt : k < n
      · have hki : (k : Int) < (n : Int) := by omega
        obtain ⟨a, x, B, i, j, D, m, d, rfl, hS, hx, c0, c1, c2, c3, c4, c5, c6⟩ := ((HR.out.mv HBW.out).elem (k := k) (by rw [HN.out]; exact hlt))
        obtain ⟨a', y, B', i', j', D', m', d', rfl, hS', hy, g0, g1, g2, g3, g4, g5, g6⟩ := ((HR'.out.mv HBW.out).elem (k := k) (by rw [HN'.out]; exact hlt))
        have HX := Lib.hid hx; have HP := Lib.hid c6.pv; clear hx c6 hS
        have HY := Lib.hid hy; have HQ := Lib.hid g6.pv; clear hy g6 hS'
        obtain ⟨bl, hbl⟩ : ∃ b, sameP x y = b := ⟨_, rfl⟩
        have hba := two_box wr (.cells #[.int .i64 x.k, strV x.nm, strV x.to, .int .i64 x.h.pos, .slice B i j, .slice D m d] 51) (.cells #[.int .i64 y.k, strV y.nm, strV y.to, .int .i64 y.h.pos, .slice B' i' j', .slice D' m' d'] 51)
        have HBA := Lib.hid hba; clear hba
        have e0 := cell_alc (.cells #[.int .i64 x.k, strV x.nm, strV x.to, .int .i64 x.h.pos, .slice B i j, .slice D m d] 51) g0; have e1 := cell_alc (.cells #[.int .i64 x.k, strV x.nm, strV x.to, .int .i64 x.h.pos, .slice B i j, .slice D m d] 51) g1; have e2 := cell_alc (.cells #[.int .i64 x.k, strV x.nm, strV x.to, .int .i64 x.h.pos, .slice B i j, .slice D m d] 51) g2; have e3 := cell_alc (.cells #[.int .i64 x.k, strV x.nm, strV x.to, .int .i64 x.h.pos, .slice B i j, .slice D m d] 51) g3; have e4 := cell_alc (.cells #[.int .i64 x.k, strV x.nm, strV x.to, .int .i64 x.h.pos, .slice B i j, .slice D m d] 51) g4; have e5 := cell_alc (.cells #[.int .i64 x.k, strV x.nm, strV x.to, .int .i64 x.h.pos, .slice B i j, .slice D m d] 51) g5
        clear g0 g1 g2 g3 g4 g5
        go_wp2_with fail
        refine (SameP B i j D m d B' i' j' D' m' d' x y _ bl (HP.out.mv HBA.out) (HQ.out.mv HBA.out) hbl).mono ?_
        rintro e w2 ⟨rfl, hb2⟩
        have HBL := Lib.hid (sameL_take HAL.out HX.out HY.out)
        have hbw2 := below_mv HBW.out (below_mv HBA.out hb2)
        have HBW2 := Lib.hid hbw2; clear hbw2 c0 c1 c2 c3 c4 c5 e0 e1 e2 e3 e4 e5 hb2
        rw [hbl] at HBL
        clear hbl
        cases bl with
        | false =>
          go_wp2
          go_ret
          exact ⟨ret_bool (by rw [HB.out, listP_no (HBL.out.2 (by simp))]), HBW2.out⟩
        | true =>
          go_wp2_with fail
          exact ⟨⟨k + 1, by omega, by go_num, HBL.out.1 (by simp), HBW2.out⟩, by simp [intOf]; omega⟩
      · go_wp2
        go_ret
        refine ⟨ret_bool ?_, HBW.out⟩
        have h1 := HAL.out
        rw [List.take_of_length_le (by rw [HN.out]; omega), List.take_of_length_le (by rw [HN'.out]; omega)] at h1
        rw [HB.out, listP_iff.2 h1]
  · have e0 : ((n : Int) != (n' : Int)) = true := by rw [bne_iff_ne]; omega
    go_wp2
    go_ret
    exact ⟨ret_bool (by rw [HB.out, listP_no (fun e => h0 (by rw [← HN.out, ← HN'.out, e]))]), Below.refl _ _⟩

theorem SameL (A : Option Addr) (n c : Nat) (A' : Option Addr) (n' c' : Nat) (l u : List Ch) (w : World) (b : Bool) (hn : l.length = n) (hn' : u.length = n') (hle : n ≤ 100000) (hR : RdP w (· < w.heap.size) A l) (hR' : RdP w (· < w.heap.size) A' u) (hb : listP l u = b) :
    Calls Try.prog 36 #[.slice A n c, .slice A' n' c'] w (BoolEnd w b) := by
  have H := Lib.hid (EqualP A n c A' n' c' l u w b hn hn' hle hR hR' hb)
  clear hn hn' hR hR' hb
  go_enter Try.func36, Try.ntmps36
  go_wp2_with fail
  refine H.out.mono ?_
  rintro e w1 ⟨rfl, hb⟩
  go_wp2
  go_ret
  exact ⟨rfl, hb⟩

end Fl
end Go.Proofs.Ytbiiabfhngdeiaa

set_option maxRecDepth 100000
namespace Go.Proofs.Ytbiiabfhngdeiaa
open Go.RowKit
set_option linter.unusedVariables false
set_option linter.unusedSimpArgs false
namespace Pn
open Tx Df Sq Hk Tr Pr Fl
attribute [local go_sem] eq_id

set_option maxHeartbeats 1000000 in
theorem EqualI (A A' : Option Addr) (cap cap' n n' B : Nat) (ls ms : List Id_) (w : World) (hn : ls.length = n) (hn' : ms.length = n') (hnm : n ≤ 100000000000) (hR : RdI w B A ls) (hR' : RdI w B A' ms) :
    Calls Try.prog 35 #[.slice A n cap, .slice A' n' cap'] w (SameEnd w (decide (ls = ms))) := by
  have HN := Lib.hid hn; clear hn
  have HN' := Lib.hid hn'; clear hn'
  by_cases h1 : n = n'
  · subst h1
    go_enter Try.func35, Try.ntmps35
    go_wp2
    go_loopw [13] (fun i wr => ∃ k : Nat, k ≤ n ∧ i = .int .i64 k ∧ ls.take k = ms.take k ∧ ∃ d, wr = w.drewN d) (fun i _ => n - (intOf i).toNat)
    case atStart => exact ⟨0, Nat.zero_le _, rfl, by simp, 0, rfl⟩
    case round =>
      obtain ⟨k, hk, rfl, hall, d, rfl⟩ := hrel
      have HA := Lib.hid hall; clear hall
      by_cases hlt : k < n
      · obtain ⟨a, x, rfl, _, hx, c0, c1⟩ := hR.elem (k := k) (by rw [HN.out]; exact hlt)
        obtain ⟨a', y, rfl, _, hy, g0, g1⟩ := hR'.elem (k := k) (by rw [HN'.out]; exact hlt)
        have HX := Lib.hid hx; have HY := Lib.hid hy
        clear hx hy
        obtain ⟨x1, x2⟩ := x
        obtain ⟨y1, y2⟩ := y
        dsimp only at c0 c1 g0 g1
        have hki : (k : Int) < (n : Int) := by omega
        by_cases he : x1 = y1 ∧ x2 = y2
        · obtain ⟨rfl, rfl⟩ := he
          have HE : Hid (ls.take (k + 1) = ms.take (k + 1)) := Lib.hid (by rw [take_at HX.out, take_at HY.out, HA.out])
          go_wp2
          go_quiet (fail)
          go_wp2
          refine ⟨⟨k + 1, by omega, by go_num, HE.out, _, rfl⟩, by simp [intOf]; omega⟩
        · have HD : Hid (decide (ls = ms) = false) := Lib.hid (decide_eq_false (fun e => he (by
            subst e
            have h2 := HX.out
            rw [HY.out] at h2
            injection h2 with h2
            injection h2 with h3 h4
            exact ⟨h3.symm, h4.symm⟩)))
          by_cases h1 : x1 = y1
          · have h2 : (x2 == y2) = false := by rw [beq_eq_false_iff_ne]; exact fun e => he ⟨h1, e⟩
            subst h1
            clear he
            go_wp2
            go_quiet (fail)
            go_wp2
            go_ret
            exact ⟨ret_bool HD.out.symm, d + nq, by simp⟩
          · have h2 : (x1 == y1) = false := by rw [beq_eq_false_iff_ne]; exact h1
            clear he h1
            go_wp2
            go_quiet (fail)
            go_wp2
            go_ret
            exact ⟨ret_bool HD.out.symm, d + nq, by simp⟩
      · have HD : Hid (decide (ls = ms) = true) := Lib.hid (by
          have := HA.out
          rw [List.take_of_length_le (by rw [HN.out]; omega), List.take_of_length_le (by rw [HN'.out]; omega)] at this
          exact decide_eq_true this)
        go_wp2
        go_ret
        exact ⟨ret_bool HD.out.symm, _, rfl⟩
  · have HD : Hid (decide (ls = ms) = false) := Lib.hid (decide_eq_false (fun e => h1 (by rw [← HN.out, ← HN'.out, e])))
    have hne : ((n : Int) != (n' : Int)) = true := by rw [bne_iff_ne]; omega
    go_enter Try.func35, Try.ntmps35
    go_wp2
    go_ret
    exact ⟨ret_bool HD.out.symm, 0, rfl⟩

/-- A patch in a block of its own. -/
abbrev nmC (p : Nm) (D : Option Addr) (dn dc : Nat) (A : Option Addr) (n c : Nat) : Array Value := #[.int .i64 p.id.1, .int .i64 p.id.2, .slice D dn dc, strV p.txt, .slice A n c]

theorem sameN_eq (p q : Nm) : sameN p q = (decide (p.id = q.id) && (decide (p.deps = q.deps) && (decide (p.txt = q.txt) && listP p.l q.l))) := by
  have h : listP p.l q.l = decide (p.l = q.l) := by rw [Bool.eq_iff_iff, listP_iff, decide_eq_true_eq]
  unfold sameN
  rw [h]
  cases decide (p.l = q.l) <;> cases decide (p.id = q.id) <;> cases decide (p.txt = q.txt) <;> cases decide (p.deps = q.deps) <;> rfl
set_option maxHeartbeats 4000000 in
theorem SameN (D : Option Addr) (dn dc : Nat) (A : Option Addr) (n c : Nat) (D' : Option Addr) (dn' dc' : Nat) (A' : Option Addr) (n' c' : Nat) (p q : Nm) (w : World) (b : Bool) (hv : NV w w.heap.size D dn dc A n c p) (hv' : NV w w.heap.size D' dn' dc' A' n' c' q) (hle : n ≤ 100000) (hd : dn ≤ 100000) (hb : sameN p q = b) :
    Calls Try.prog 20 #[nmV p.id D dn dc p.txt A n c, nmV q.id D' dn' dc' q.txt A' n' c'] w (BoolEnd w b) := by
  have hbe := hb.symm.trans (sameN_eq p q)
  clear hb
  obtain ⟨⟨u1, u2⟩, ds, t, l⟩ := p
  obtain ⟨⟨v1, v2⟩, ds', t', l'⟩ := q
  dsimp only at hbe hv hv' ⊢
  have HV := Lib.hid hv; have HV' := Lib.hid hv'; have HB := Lib.hid hbe
  have B0 := Lib.hid ((Blk.new w 28 #[.int .i64 u1, .int .i64 u2, .slice D dn dc, strV t, .slice A n c]).alloc (.cells #[.int .i64 v1, .int .i64 v2, .slice D' dn' dc', strV t', .slice A' n' c'] 28))
  have b1 := Blk.new (w.alloc (.cells #[.int .i64 u1, .int .i64 u2, .slice D dn dc, strV t, .slice A n c] 28)) 28 #[.int .i64 v1, .int .i64 v2, .slice D' dn' dc', strV t', .slice A' n' c']
  simp only [World.size_alloc] at b1
  have B1 := Lib.hid b1
  have HBA := Lib.hid (two_box w (.cells #[.int .i64 u1, .int .i64 u2, .slice D dn dc, strV t, .slice A n c] 28) (.cells #[.int .i64 v1, .int .i64 v2, .slice D' dn' dc', strV t', .slice A' n' c'] 28))
  clear hv hv' hbe b1
  by_cases h1 : u1 = v1
  · subst h1
    by_cases h2 : u2 = v2
    · subst h2
      go_enter Try.func20, Try.ntmps20
      go_upto_region 1 with fail
      generalize ((w.alloc (.cells #[.int .i64 u1, .int .i64 u2, .slice D dn dc, strV t, .slice A n c] 28)).alloc (.cells #[.int .i64 u1, .int .i64 u2, .slice D' dn' dc', strV t', .slice A' n' c'] 28)) = w1 at B0 B1 HBA ⊢
      obtain ⟨z, hz⟩ : ∃ z, w.heap.size = z := ⟨_, rfl⟩
      rw [hz] at B0 B1 ⊢
      clear hz
      have x0 := B0.out.cell 0 rfl; have x1 := B0.out.cell 1 rfl; have x2 := B0.out.cell 2 rfl
      have y0 := B1.out.cell 0 rfl; have y1 := B1.out.cell 1 rfl; have y2 := B1.out.cell 2 rfl
      go_wp2_with fail
      refine (EqualI D D' dc dc' dn dn' _ ds ds' w1 HV.out.dl HV'.out.dl (by omega) (RdI.mv HV.out.dr HBA.out) (Rd.up (Rd.below HV'.out.dr HBA.out) HBA.out.size)).mono ?_
      rintro e w2 ⟨rfl, d, rfl⟩
      clear x0 x1 x2 y0 y1 y2
      replace HBA := Lib.hid (below_mv HBA.out (below_drewN (Below.refl _ _) d))
      obtain ⟨bd, hbd⟩ : ∃ b, decide (ds = ds') = b := ⟨_, rfl⟩
      rw [hbd]
      have HD := Lib.hid hbd
      clear hbd
      cases bd with
      | false =>
        go_wp2
        go_ret
        exact ⟨ret_bool (by rw [HB.out, HD.out, Bool.false_and, Bool.and_false]), HBA.out⟩
      | true =>
        replace B0 := Lib.hid (B0.out.drewN d); replace B1 := Lib.hid (B1.out.drewN d)
        generalize w1.drewN d = w2 at B0 B1 HBA ⊢
        have x3 := B0.out.cell 3 rfl; have x4 := B0.out.cell 4 rfl
        have y3 := B1.out.cell 3 rfl; have y4 := B1.out.cell 4 rfl
        by_cases h3 : t = t'
        · subst h3
          go_wp2_with fail
          obtain ⟨bl, hbl⟩ : ∃ b, listP l l' = b := ⟨_, rfl⟩
          have hvm := HV.out.mv HBA.out
          have hvm' := HV'.out.mv HBA.out
          refine (SameL A n c A' n' c' l l' w2 bl hvm.l hvm'.l hle hvm.r hvm'.r hbl).mono ?_
          rintro e w3 ⟨rfl, hb3⟩
          have HL := Lib.hid hbl
          replace HBA := Lib.hid (below_mv HBA.out hb3)
          clear x3 x4 y3 y4 hbl hvm hvm' hb3
          go_wp2
          all_goals go_ret
          all_goals refine ⟨ret_bool ?_, HBA.out⟩
          all_goals rw [HB.out, HD.out, HL.out]; simp
        · have e3 : (t == t') = false := by simpa using h3
          have HT := Lib.hid (decide_eq_false h3)
          clear h3
          go_wp2
          go_ret
          exact ⟨ret_bool (by rw [HB.out, HT.out, Bool.false_and, Bool.and_false, Bool.and_false]), HBA.out⟩
    · have e2 : (u2 == v2) = false := by rw [beq_eq_false_iff_ne]; exact h2
      have HI : Hid (decide ((u1, u2) = (u1, v2)) = false) := Lib.hid (decide_eq_false (fun e => h2 (by injection e)))
      clear h2
      go_enter Try.func20, Try.ntmps20
      go_wp2
      go_ret
      exact ⟨ret_bool (by rw [HB.out, HI.out]; rfl), HBA.out⟩
  · have e1 : (u1 == v1) = false := by rw [beq_eq_false_iff_ne]; exact h1
    have HI : Hid (decide ((u1, u2) = (v1, v2)) = false) := Lib.hid (decide_eq_false (fun e => h1 (by injection e)))
    clear h1
    go_enter Try.func20, Try.ntmps20
    go_wp2
    go_ret
    exact ⟨ret_bool (by rw [HB.out, HI.out]; rfl), HBA.out⟩

end Pn
end Go.Proofs.Ytbiiabfhngdeiaa

set_option maxRecDepth 100000
namespace Go.Proofs.Ytbiiabfhngdeiaa
open Go.RowKit
set_option linter.unusedVariables false
set_option linter.unusedSimpArgs false
namespace Tg
open Tx Df Sq Hk Tr Pr Fl Pn

/-- Where an id stands first; -1: nowhere. -/
def findI (l : List Id_) (x : Id_) : Int := match l.findIdx? (fun y => decide (x = y)) with
  | some k => k
  | none => -1
theorem findI_at {l : List Id_} {x : Id_} {k : Nat} (hx : l[k]? = some x) (hb : ∀ (j : Nat) (y : Id_), l[j]? = some y → j < k → x ≠ y) : findI l x = (k : Int) := by
  have key : l.findIdx? (fun y => decide (x = y)) = some k := by
    rw [List.findIdx?_eq_some_iff_getElem]
    obtain ⟨hk, e⟩ := List.getElem?_eq_some_iff.1 hx
    refine ⟨hk, by rw [e]; exact decide_eq_true rfl, fun j hj => ?_⟩
    have := hb j _ (List.getElem?_eq_getElem (by omega)) hj
    simpa using this
  unfold findI
  rw [key]
theorem findI_no {l : List Id_} {x : Id_} (h : ∀ (j : Nat) (y : Id_), l[j]? = some y → x ≠ y) : findI l x = -1 := by
  have key : l.findIdx? (fun y => decide (x = y)) = none := by
    rw [List.findIdx?_eq_none_iff]
    intro y hy
    obtain ⟨j, hj⟩ := List.getElem?_of_mem hy
    exact decide_eq_false (h j y hj)
  unfold findI
  rw [key]
theorem findI_mem {l : List Id_} {x : Id_} : 0 ≤ findI l x ↔ x ∈ l := by
  unfold findI
  cases h : l.findIdx? (fun y => decide (x = y)) with
  | none =>
    rw [List.findIdx?_eq_none_iff] at h
    refine ⟨fun h => absurd h (by decide), fun hx => ?_⟩
    have := h x hx
    simp at this
  | some k =>
    rw [List.findIdx?_eq_some_iff_getElem] at h
    obtain ⟨hk, e, _⟩ := h
    have e := of_decide_eq_true e
    exact ⟨fun _ => e ▸ List.getElem_mem hk, fun _ => by dsimp only; omega⟩

attribute [local go_sem] eq_id
set_option maxHeartbeats 1000000 in
theorem IndexI (x : Id_) (A : Option Addr) (n c B : Nat) (l : List Id_) (w : World) (hn : l.length = n) (hln : n ≤ 1000000) (hB : B ≤ w.heap.size) (hR : RdI w B A l) :
    Calls Try.prog 38 #[.slice A n c, .agg #[.int .i64 x.1, .int .i64 x.2]] w (IntEnd w (findI l x)) := by
  obtain ⟨x, u⟩ := x
  have HN := Lib.hid hn; have HR := Lib.hid (Rd.up hR hB : RdI w w.heap.size A l)
  clear hn hR hB
  obtain ⟨iv, hiv⟩ : ∃ iv, findI l (x, u) = iv := ⟨_, rfl⟩
  rw [hiv]
  have HIV := Lib.hid hiv; clear hiv
  have b0 := Blk.new w 24 #[.int .i64 x, .int .i64 u]
  have hba : Below w.heap.size w (w.alloc (.cells #[.int .i64 x, .int .i64 u] 24)) := (Below.refl _ _).alloc (Nat.le_refl _) _
  have HB0 := Lib.hid b0; have HBA := Lib.hid hba
  clear b0 hba
  dsimp only
  go_enter Try.func38, Try.ntmps38
  go_wp2_with fail
  obtain ⟨w0, hw0⟩ : ∃ W, w.alloc (.cells #[.int .i64 x, .int .i64 u] 24) = W := ⟨_, rfl⟩
  obtain ⟨z, hz⟩ : ∃ z, w.heap.size = z := ⟨_, rfl⟩
  rw [hw0] at HB0 HBA ⊢
  rw [hz] at HB0 ⊢
  have HZ := Lib.hid hz
  clear hw0 hz
  have HR0 := Lib.hid (RdI.mv HR.out HBA.out)
  go_loopw [8] (fun i wr => ∃ k : Nat, k ≤ n ∧ i = .int .i64 (k : Int) ∧ (∀ (j : Nat) (y : Id_), l[j]? = some y → j < k → (x, u) ≠ y) ∧ Below w0.heap.size w0 wr) (fun i _ => n - (intOf i).toNat)
  case atStart => exact ⟨0, Nat.zero_le _, rfl, fun j _ _ hj => by omega, Below.refl _ _⟩
  case round =>
    obtain ⟨k, hk, rfl, hall, hbw⟩ := hrel
    have HA := Lib.hid hall; have HBW := Lib.hid hbw; clear hall hbw
    have HBE := Lib.hid (below_mv HBA.out HBW.out)
    by_cases hlt : k < n
    · have hki : (k : Int) < (n : Int) := by omega
      obtain ⟨a, y, rfl, hS, hy, c0, c1⟩ := ((RdI.mv HR0.out HBW.out).elem (k := k) (by rw [HN.out]; exact hlt))
      obtain ⟨y, v⟩ := y
      have HX := Lib.hid hy
      have bz := HB0.out.below HBW.out HB0.out.lt
      have z0 := bz.cell 0 rfl; have z1 := bz.cell 1 rfl; have hzl := bz.lt
      clear hy hS bz
      dsimp only at c0 c1
      by_cases e1 : x = y
      · subst e1
        by_cases e2 : u = v
        · subst e2
          have HE : Hid (iv = (k : Int)) := Lib.hid (by rw [← HIV.out]; exact findI_at HX.out HA.out)
          go_wp2
          go_quiet (fail)
          go_wp2
          go_ret
          exact ⟨by rw [HE.out]; rfl, below_drewN HBE.out _⟩
        · have e3 : (u == v) = false := by rw [beq_eq_false_iff_ne]; exact e2
          go_wp2
          go_quiet (fail)
          go_wp2
          refine ⟨⟨k + 1, by omega, by go_num, fun j y hy hj => ?_, below_drewN HBW.out _⟩, by simp [intOf]; omega⟩
          by_cases e : j = k
          · subst e
            have h1 := HX.out
            rw [h1] at hy
            injection hy with hy
            subst hy
            intro e; injection e with _ e; exact e2 e
          · exact HA.out j y hy (by omega)
      · have e3 : (x == y) = false := by rw [beq_eq_false_iff_ne]; exact e1
        go_wp2
        go_quiet (fail)
        go_wp2
        refine ⟨⟨k + 1, by omega, by go_num, fun j y hy hj => ?_, below_drewN HBW.out _⟩, by simp [intOf]; omega⟩
        by_cases e : j = k
        · subst e
          have h1 := HX.out
          rw [h1] at hy
          injection hy with hy
          subst hy
          intro e; injection e with e _; exact e1 e
        · exact HA.out j y hy (by omega)
    · have HE : Hid (iv = -1) := Lib.hid (by
        rw [← HIV.out]
        exact findI_no fun j y hy => HA.out j y hy (by have := (List.getElem?_eq_some_iff.1 hy).1; have := HN.out; omega))
      go_wp2
      go_ret
      exact ⟨by rw [HE.out]; rfl, HBE.out⟩
theorem ContainsI (x : Id_) (A : Option Addr) (n c B : Nat) (l : List Id_) (w : World) (b : Bool) (hn : l.length = n) (hln : n ≤ 1000000) (hB : B ≤ w.heap.size) (hR : RdI w B A l) (hb : decide (x ∈ l) = b) :
    Calls Try.prog 22 #[.slice A n c, .agg #[.int .i64 x.1, .int .i64 x.2]] w (BoolEnd w b) := by
  have HN := Lib.hid hn; have HR := Lib.hid hR; have HB := Lib.hid hb
  clear hn hR hb
  go_enter Try.func22, Try.ntmps22
  have hba : Below w.heap.size w (w.alloc (.cells #[.int .i64 x.1, .int .i64 x.2] 24)) := (Below.refl _ _).alloc (Nat.le_refl _) _
  go_wp2_with fail
  refine (IndexI x A n c B l _ HN.out hln (Nat.le_trans hB hba.size) (Rd.below HR.out (hba.mono hB))).mono ?_
  rintro e w1 ⟨rfl, hb1⟩
  have HB1 := Lib.hid (below_mv hba hb1); clear hb1 hba
  obtain ⟨i, hi⟩ : ∃ i, findI l x = i := ⟨_, rfl⟩
  have HI : Hid (decide (0 ≤ i) = b) := Lib.hid (by rw [← HB.out, ← hi]; exact decide_eq_decide.2 findI_mem)
  rw [hi]
  clear hi
  go_wp2
  go_ret
  exact ⟨ret_bool (by rw [← HI.out]), HB1.out⟩

end Tg
end Go.Proofs.Ytbiiabfhngdeiaa

set_option maxRecDepth 100000
namespace Go.Proofs.Ytbiiabfhngdeiaa
open Go.RowKit
set_option linter.unusedVariables false
set_option linter.unusedSimpArgs false
namespace Tg
open Tx Df Sq Hk Tr Pr Fl Pn

/-- A row of ids of one's own that is new is read as ids. -/
theorem rdI_own_hi {W : World} {base : Nat} {v : Value} {l : List Id_} (h : OwnI W base v l) : ∃ A c, v = .slice A l.length c ∧ l.length ≤ c ∧ RdG W (fun b => base ≤ b ∧ b < W.heap.size) A (idsV l) := by
  obtain ⟨A, c, rfl, hc, hr⟩ := rdI_own h
  refine ⟨A, c, rfl, hc, ?_⟩
  rcases hr with h0 | ⟨a, rfl, hlt, hcell⟩
  · exact .inl h0
  · rcases h.2 with ⟨e, _⟩ | ⟨g, cap, cur, e, hbg, _⟩
    · injection e with e; cases e
    · injection e with e
      injection e with e
      subst e
      exact .inr ⟨_, rfl, ⟨hbg, hlt⟩, hcell⟩

/-- How with ends. -/
def WithEnd (w : World) (p : Nm) (dn : Nat) (A : Option Addr) (n c : Nat) (e : Ending) (w' : World) : Prop :=
  ∃ D dc, e = .returned (nmV p.id D dn dc p.txt A n c) ∧ dn ≤ dc ∧ RdG w' (Since w w') D (idsV p.deps) ∧ Below w.heap.size w w'

set_option maxHeartbeats 1000000 in
theorem With (D : Option Addr) (dn dc : Nat) (A : Option Addr) (n c : Nat) (p : Nm) (A' : Option Addr) (n' c' : Nat) (w : World) (hd : dn ≤ 100000) (hdl : p.deps.length = dn) (hr : RdI w w.heap.size D p.deps) :
    Calls Try.prog 24 #[nmV p.id D dn dc p.txt A n c, .slice A' n' c'] w (WithEnd w p dn A' n' c') := by
  have HR := Lib.hid hr; have HN := Lib.hid hdl
  clear hr hdl
  have b0 := (Blk.new w 58 #[.int .i64 p.id.1, .int .i64 p.id.2, .slice D dn dc, strV p.txt, .slice A n c]).alloc (.cells #[.int .i64 0, .int .i64 0, .slice none 0 0, .string ⟨#[]⟩, .slice none 0 0] 28)
  have b1 := Blk.new (w.alloc (.cells #[.int .i64 p.id.1, .int .i64 p.id.2, .slice D dn dc, strV p.txt, .slice A n c] 58)) 28 #[.int .i64 0, .int .i64 0, .slice none 0 0, .string ⟨#[]⟩, .slice none 0 0]
  have hba := two_box w (.cells #[.int .i64 p.id.1, .int .i64 p.id.2, .slice D dn dc, strV p.txt, .slice A n c] 58) (.cells #[.int .i64 0, .int .i64 0, .slice none 0 0, .string ⟨#[]⟩, .slice none 0 0] 28)
  simp only [World.size_alloc] at b1
  go_enter Try.func24, Try.ntmps24
  go_upto_region 1 with fail
  generalize ((w.alloc (.cells #[.int .i64 p.id.1, .int .i64 p.id.2, .slice D dn dc, strV p.txt, .slice A n c] 58)).alloc (.cells #[.int .i64 0, .int .i64 0, .slice none 0 0, .string ⟨#[]⟩, .slice none 0 0] 28)) = w1 at b0 b1 hba ⊢
  obtain ⟨z, hz⟩ : ∃ z, w.heap.size = z := ⟨_, rfl⟩
  have HR1 := Lib.hid (RdI.mv HR.out hba)
  rw [hz] at b0 b1 ⊢
  have HB0 := Lib.hid b0; have HB1 := Lib.hid b1; have HBA := Lib.hid hba; have HZ := Lib.hid hz
  have x2 := b0.cell 2 rfl; have x4 := b0.cell 4 rfl
  clear b0 b1 hba hz HR
  go_upto_region 2 with (at_builtin; refine wpList_ownI rfl (.const (.slice none 0 0)) (.tmp 6) rfl w1.heap.size dn dc (.slice none 0 0) D [] p.deps rfl rfl (ownI_nil _ _) HR1.out HN.out (by simp; omega) (Nat.le_refl _) ?_; intro v w2 ho hg; have HO := Lib.hid (show OwnI w2 w1.heap.size v p.deps from ho); have hb2 : Below w1.heap.size w1 w2 := (Below.refl _ _).grown hg (Nat.le_refl _) (fun k e => by cases e); have b02 := HB0.out.below hb2 HB0.out.lt; have b12 := HB1.out.below hb2 HB1.out.lt; have HB2 := Lib.hid hb2; have HB02 := Lib.hid b02; have HB12 := Lib.hid b12; obtain ⟨A2, c2, hv, hc2, hr2⟩ := rdI_own_hi HO.out; rw [HN.out] at hv hc2; subst hv; have HR2 := Lib.hid hr2; clear ho hg hb2 hr2 x2 x4; have x0 := b02.cell 0 rfl; have x1 := b02.cell 1 rfl; have x2 := b02.cell 2 rfl; have x3 := b02.cell 3 rfl; have x4 := b02.cell 4 rfl; have f2 := b02.frozen 2; have f4 := b02.frozen 4; have l0 := b02.lt; clear b02 b12)
  have b03 : Blk ((w2.setCell ⟨z, 2, none⟩ (.slice A2 dn c2)).setCell ⟨z, 4, none⟩ (.slice A' n' c')) z 58 #[.int .i64 p.id.1, .int .i64 p.id.2, .slice A2 dn c2, strV p.txt, .slice A' n' c'] := (HB02.out.set 2 _).set 4 _
  have b13 : Blk ((w2.setCell ⟨z, 2, none⟩ (.slice A2 dn c2)).setCell ⟨z, 4, none⟩ (.slice A' n' c')) (z + 1) 28 #[.int .i64 0, .int .i64 0, .slice none 0 0, .string ⟨#[]⟩, .slice none 0 0] := (HB12.out.set_ne (by omega) 2 _).set_ne (by omega) 4 _
  have hb3 : Below w.heap.size w ((w2.setCell ⟨z, 2, none⟩ (.slice A2 dn c2)).setCell ⟨z, 4, none⟩ (.slice A' n' c')) := ((below_mv HBA.out HB2.out).setCell (p := ⟨z, 2, none⟩) (Nat.le_of_eq HZ.out) _).setCell (p := ⟨z, 4, none⟩) (Nat.le_of_eq HZ.out) _
  have hz1 : z + 1 < w1.heap.size := HB1.out.lt
  have hzw := HZ.out
  have hr3 : RdG ((w2.setCell ⟨z, 2, none⟩ (.slice A2 dn c2)).setCell ⟨z, 4, none⟩ (.slice A' n' c')) (fun b => z + 2 ≤ b ∧ b < w2.heap.size) A2 (idsV p.deps) := (HR2.out.mono fun b hb => ⟨by have := hb.1; omega, hb.2⟩).to (((alike_set w2 z 2 (.slice A2 dn c2)).trans_ (alike_set _ z 4 (.slice A' n' c')) (by simp)).mono fun b hb => by omega)
  have hs3 : ((w2.setCell ⟨z, 2, none⟩ (.slice A2 dn c2)).setCell ⟨z, 4, none⟩ (.slice A' n' c')).heap.size = w2.heap.size := by simp
  clear x0 x1 x2 x3 x4 f2 f4 l0
  generalize ((w2.setCell ⟨z, 2, none⟩ (.slice A2 dn c2)).setCell ⟨z, 4, none⟩ (.slice A' n' c')) = w3 at b03 b13 hb3 hr3 hs3 ⊢
  have x0 := b03.cell 0 rfl; have x1 := b03.cell 1 rfl; have x2 := b03.cell 2 rfl; have x3 := b03.cell 3 rfl; have x4 := b03.cell 4 rfl
  have y0 := b13.cell 0 rfl; have y1 := b13.cell 1 rfl; have y2 := b13.cell 2 rfl; have y3 := b13.cell 3 rfl; have y4 := b13.cell 4 rfl
  have g0 := b13.frozen 0; have g1 := b13.frozen 1; have g2 := b13.frozen 2; have g3 := b13.frozen 3; have g4 := b13.frozen 4
  have hl0 := b03.lt; have hl1 := b13.lt
  have b14 := blk5 b13 (.int .i64 p.id.1) (.int .i64 p.id.2) (.slice A2 dn c2) (strV p.txt) (.slice A' n' c')
  have hb4 := below_set5 hb3 (show w.heap.size ≤ z + 1 by omega) (.int .i64 p.id.1) (.int .i64 p.id.2) (.slice A2 dn c2) (strV p.txt) (.slice A' n' c')
  have hr4 := hr3.to ((alike_set5 w3 (z + 1) (.int .i64 p.id.1) (.int .i64 p.id.2) (.slice A2 dn c2) (strV p.txt) (.slice A' n' c')).mono fun b hb => by omega)
  have hs4 : (World.setCell (World.setCell (World.setCell (World.setCell (World.setCell w3 ⟨z + 1, 0, none⟩ (.int .i64 p.id.1)) ⟨z + 1, 1, none⟩ (.int .i64 p.id.2)) ⟨z + 1, 2, none⟩ (.slice A2 dn c2)) ⟨z + 1, 3, none⟩ (strV p.txt)) ⟨z + 1, 4, none⟩ (.slice A' n' c')).heap.size = w3.heap.size := by simp
  have HB4 := Lib.hid hb4; have HR4 := Lib.hid hr4; have HS4 := Lib.hid (hs4.trans hs3); have B14 := Lib.hid b14; have HC2 := Lib.hid hc2
  clear b03 b13 hb3 hr3 hs3 hb4 hr4 hs4 b14 hz1 hzw hc2 HB2 HB02 HB12 HR2 HO HB0 HB1 HBA HR1
  go_wp2_with fail
  generalize (World.setCell (World.setCell (World.setCell (World.setCell (World.setCell w3 ⟨z + 1, 0, none⟩ (.int .i64 p.id.1)) ⟨z + 1, 1, none⟩ (.int .i64 p.id.2)) ⟨z + 1, 2, none⟩ (.slice A2 dn c2)) ⟨z + 1, 3, none⟩ (strV p.txt)) ⟨z + 1, 4, none⟩ (.slice A' n' c')) = w4 at *
  have u0 := B14.out.cell 0 rfl; have u1 := B14.out.cell 1 rfl; have u2 := B14.out.cell 2 rfl; have u3 := B14.out.cell 3 rfl; have u4 := B14.out.cell 4 rfl
  refine bodyPost_ret (v := .agg #[.int .i64 p.id.1, .int .i64 p.id.2, .slice A2 dn c2, strV p.txt, .slice A' n' c']) (by simp [results, Try.results24, go_sem, u0, u1, u2, u3, u4]) rfl ?_
  exact ⟨A2, c2, rfl, HC2.out, HR4.out.mono fun b hb => ⟨by have := HZ.out; omega, by have := HS4.out; omega⟩, HB4.out⟩

end Tg
end Go.Proofs.Ytbiiabfhngdeiaa

set_option maxRecDepth 100000
namespace Go.Proofs.Ytbiiabfhngdeiaa
open Go.RowKit Go.Shelf
set_option linter.unusedVariables false
namespace Fl
open Tx Rg
attribute [local go_sem] Oper.semAt_some

/-- Places from the last one on. -/
def dn (m : Nat) : List Nat := (List.range m).reverse
theorem dn_zero : dn 0 = [] := rfl
theorem dn_succ (k : Nat) : dn (k + 1) = k :: dn k := by unfold dn; rw [List.range_succ, List.reverse_append]; rfl
theorem dn_length (m : Nat) : (dn m).length = m := by unfold dn; simp
theorem dn_split : ∀ {m : Nat} {pre post : List Nat} {x : Nat}, dn m = pre ++ x :: post → pre.length + x + 1 = m
  | 0, pre, post, x, h => by simp [dn_zero] at h
  | m + 1, [], post, x, h => by
    rw [dn_succ] at h
    injection h with h1 h2
    simp; omega
  | m + 1, y :: pre, post, x, h => by
    rw [dn_succ, List.cons_append] at h
    injection h with h1 h2
    have := dn_split h2
    simp; omega

/-- What a round must keep: the box in which the slice lies, and that its changes can be read. -/
def KpL (Bs : Nat) (A : Option Addr) (m : Nat) (W W' : World) : Prop := (∀ v, Boxed W Bs 26 v → Boxed W' Bs 26 v) ∧ (Cells6 W A m → Cells6 W' A m)
section
variable {Bs m : Nat} {A : Option Addr}
theorem kpL_t {W W1 W2 : World} (h : KpL Bs A m W W1) (k : KpL Bs A m W1 W2) : KpL Bs A m W W2 := ⟨fun v hv => k.1 v (h.1 v hv), fun hv => k.2 (h.2 hv)⟩
theorem kpL_b {l : Nat} (hB : Bs ≠ l) (W : World) (o o' : Obj) (h : W.heap[l]? = some o) (ho : o.isCells = false) : KpL Bs A m W (W.putObj l o') :=
  ⟨fun v hv => hv.kept (grownBy_putObj' W l o') (by simpa using hB), fun hv => hv.kc (keepC_plain (grownBy_putObj' W l o') (fun r e => by cases e; exact ⟨o, h, ho⟩))⟩
theorem kpL_new {W W' : World} (hg : W.grownBy W' none) : KpL Bs A m W W' := ⟨fun v hv => hv.kept hg (by simp), fun hv => hv.kc (keepC_plain hg (fun r e => by cases e))⟩
end

/-- What is handed over. -/
def EL (m : Nat) (A : Option Addr) (i : Nat) (vals : Array Value) (W : World) : Prop := i < m ∧ ∃ a v0 v1 v2 v3 v4 v5, A = some a ∧ vals = #[.int .i64 (i : Int), .agg #[v0, v1, v2, v3, v4, v5]] ∧
  W.cell? (a.add (i * 6)) = some v0 ∧ W.cell? ⟨(a.add (i * 6)).block, (a.add (i * 6)).off + 1, none⟩ = some v1 ∧ W.cell? ⟨(a.add (i * 6)).block, (a.add (i * 6)).off + 2, none⟩ = some v2 ∧
  W.cell? ⟨(a.add (i * 6)).block, (a.add (i * 6)).off + 3, none⟩ = some v3 ∧ W.cell? ⟨(a.add (i * 6)).block, (a.add (i * 6)).off + 4, none⟩ = some v4 ∧ W.cell? ⟨(a.add (i * 6)).block, (a.add (i * 6)).off + 5, none⟩ = some v5

theorem backL_in (n : Nat) (A : Option Addr) (l c : Nat) (w : World) :
    CallsIn Fence.wide n Try.prog 54 #[.slice A l c] w fun e w' => e = .returned (.func (.func 63) #[] #[.pointer (some ⟨w.heap.size, 0, none⟩)]) ∧ w' = w.alloc (.cells #[.slice A l c] 26) := by
  refine callsIn_of_wp Try.func54 rfl trivial ?_ rfl
  simp only [Try.ntmps54, List.size_toArray, List.length_cons, List.length_nil, Nat.reduceAdd, Nat.reduceSub, Array.replicate_succ, Array.replicate_zero, List.push_toArray, List.append_toArray, List.nil_append, List.cons_append]
  gi_wp2
  go_ret
  exact ⟨rfl, rfl⟩

set_option maxRecDepth 100000 in
set_option maxHeartbeats 2000000 in
theorem backL1_in (n l Bs cap m : Nat) (A : Option Addr) (hle : m ≤ 1000000) (J Jx : List Nat → World → Prop)
    (hY : ∀ pre x post vals W1, dn m = pre ++ x :: post → J pre W1 → EL m A x vals W1 → YieldAt Fence.wide (n - 1) Try.prog l vals W1 fun e W' =>
      (e = .returned (.bool true) ∧ J (pre ++ [x]) W' ∧ KpL Bs A m W1 W') ∨ (e = .returned (.bool false) ∧ Jx (pre ++ [x]) W'))
    (W : World) (hBs : Boxed W Bs 26 (.slice A m cap)) (hR : Cells6 W A m) (h0 : J [] W) :
    CallsIn Fence.wide n Try.prog 63 #[.func (.yield l) #[] #[], .pointer (some ⟨Bs, 0, none⟩)] W fun e W' => (∃ v, e = .returned v) ∧ (J (dn m) W' ∨ ∃ pre post, dn m = pre ++ post ∧ Jx pre W') := by
  have hc := hBs.cell
  refine callsIn_of_wp Try.func63 rfl trivial ?_ rfl
  simp only [Try.ntmps63, List.size_toArray, List.length_cons, List.length_nil, Nat.reduceAdd, Nat.reduceSub, Array.replicate_succ, Array.replicate_zero, List.push_toArray, List.append_toArray, List.nil_append, List.cons_append]
  gi_wp2
  gi_loopw [3] (fun i wr => ∃ k pre, k ≤ m ∧ i = .int .i64 ((k : Int) - 1) ∧ dn m = pre ++ dn k ∧ J pre wr ∧ Boxed wr Bs 26 (.slice A m cap) ∧ Cells6 wr A m) (fun i _ => (intOf i + 1).toNat)
  case atStart => exact ⟨m, [], Nat.le_refl _, rfl, rfl, h0, hBs, hR⟩
  case round =>
    clear hc
    obtain ⟨k, pre, hk, rfl, hb, hJs, hBs', hR'⟩ := hrel
    have HB := Lib.hid hb; clear hb
    have HR := Lib.hid hR'; clear hR'
    have hc := hBs'.cell
    cases k with
    | zero =>
      have e : (((0 : Nat) : Int) - 1) = -1 := rfl
      rw [e]; clear e
      gi_wp2
      go_end0
      exact ⟨⟨_, rfl⟩, .inl (by have := HB.out; rw [dn_zero, List.append_nil] at this; rw [this]; exact hJs)⟩
    | succ k =>
      have e : (((k + 1 : Nat) : Int) - 1) = (k : Int) := by omega
      rw [e]; clear e
      have HB2 : Hid (dn m = pre ++ k :: dn k) := Lib.hid (by rw [HB.out, dn_succ])
      clear HB
      obtain ⟨a, v0, v1, v2, v3, v4, v5, rfl, c0, c1, c2, c3, c4, c5⟩ := HR.out k (by omega)
      obtain ⟨fn, tmps, assign, body, hy, hRR⟩ := hY pre k _ #[.int .i64 (k : Int), .agg #[v0, v1, v2, v3, v4, v5]] wr HB2.out hJs ⟨by omega, a, v0, v1, v2, v3, v4, v5, rfl, rfl, c0, c1, c2, c3, c4, c5⟩
      gi_wp2
      refine ⟨(fun h => by cases h), ?_⟩
      refine hRR.mono ?_
      rintro e W3 (⟨rfl, hJ3, hk3⟩ | ⟨rfl, hJx3⟩)
      · have hc3 := (hk3.1 _ hBs').cell
        clear c0 c1 c2 c3 c4 c5
        gi_wp2
        go_roundw
        case rel => exact ⟨k, pre ++ [k], by omega, rfl, by rw [HB2.out]; simp, hJ3, hk3.1 _ hBs', hk3.2 HR.out⟩
        case measure => simp [intOf]
      · gi_wp2
        refine bodyPost_ret (results_none rfl _ _ _) rfl ?_
        exact ⟨⟨_, rfl⟩, .inr ⟨pre ++ [k], dn k, by rw [HB2.out]; simp, hJx3⟩⟩

theorem backL_gives (n Bs cap m : Nat) (A : Option Addr) (hle : m ≤ 1000000) (w : World) (hBs : Boxed w Bs 26 (.slice A m cap)) (hR : Cells6 w A m) :
    GivesE Try.prog Plain n 63 #[.pointer (some ⟨Bs, 0, none⟩)] (EL m A) (dn m) (KpL Bs A m) w := fun J Jx W hW hs _ _ hY h0 =>
  backL1_in n _ Bs cap m A hle J Jx (fun pre x post vals W1 h1 h2 h3 => yield_less (hY pre x post vals W1 h1 h2 h3)) W ((hW.block Bs hBs.lt).trans hBs) (cells6_below hR hW) h0

end Fl
end Go.Proofs.Ytbiiabfhngdeiaa

set_option maxRecDepth 100000
namespace Go.Proofs.Ytbiiabfhngdeiaa
open Go.RowKit
set_option linter.unusedVariables false
set_option linter.unusedSimpArgs false
namespace Fl
open Tx Df Sq Hk Tr Pr

/-- The cells of one change within a row's. -/
def CellsAt (W : World) (S : Nat → Prop) (xs : List Value) (k : Nat) (x : Ch) : Prop :=
  ∃ A n c B m d, xs[k * 6]? = some (.int .i64 x.k) ∧ xs[k * 6 + 1]? = some (strV x.nm) ∧ xs[k * 6 + 2]? = some (strV x.to) ∧ xs[k * 6 + 3]? = some (.int .i64 x.h.pos) ∧ xs[k * 6 + 4]? = some (.slice A n c) ∧ xs[k * 6 + 5]? = some (.slice B m d) ∧ PG W S A n c B m d x
section
variable {W : World} {S T : Nat → Prop} {xs : List Value} {k p : Nat} {x y : Ch}
theorem cellsAt_set (h : CellsAt W S xs p y) (hp : p ≠ k) (u u' : Value) : CellsAt W S ((xs.set (k * 6 + 4) u).set (k * 6 + 5) u') p y := by
  obtain ⟨A, n, c, B, m, d, h0, h1, h2, h3, h4, h5, h6⟩ := h
  have key : ∀ b, b < 6 → ((xs.set (k * 6 + 4) u).set (k * 6 + 5) u')[p * 6 + b]? = xs[p * 6 + b]? := fun b hb => by
    rw [List.getElem?_set_ne (by omega), List.getElem?_set_ne (by omega)]
  exact ⟨A, n, c, B, m, d, (key 0 (by decide)).trans h0, (key 1 (by decide)).trans h1, (key 2 (by decide)).trans h2, (key 3 (by decide)).trans h3, (key 4 (by decide)).trans h4, (key 5 (by decide)).trans h5, h6⟩
theorem cellsAt_new {A B : Option Addr} {n c m d : Nat} (h : CellsAt W T xs k x) (hl : k * 6 + 5 < xs.length) (hy : PG W S A n c B m d x) : CellsAt W S ((xs.set (k * 6 + 4) (.slice A n c)).set (k * 6 + 5) (.slice B m d)) k x := by
  obtain ⟨_, _, _, _, _, _, h0, h1, h2, h3, _, _, _⟩ := h
  refine ⟨A, n, c, B, m, d, ?_, ?_, ?_, ?_, ?_, ?_, hy⟩
  · rw [List.getElem?_set_ne (by omega), List.getElem?_set_ne (by omega)]; exact h0
  · rw [List.getElem?_set_ne (by omega), List.getElem?_set_ne (by omega)]; exact h1
  · rw [List.getElem?_set_ne (by omega), List.getElem?_set_ne (by omega)]; exact h2
  · rw [List.getElem?_set_ne (by omega), List.getElem?_set_ne (by omega)]; exact h3
  · rw [List.getElem?_set_ne (by omega), List.getElem?_set_self (by omega)]
  · rw [List.getElem?_set_self (by rw [List.length_set]; exact hl)]
end

/-- Blocks made behind w that are not the row. -/
def Fresh (w W : World) (row : Option Nat) : Nat → Prop := fun b => w.heap.size ≤ b ∧ b < W.heap.size ∧ some b ≠ row
theorem fresh_up {w W W' : World} {row : Option Nat} (hs : W.heap.size ≤ W'.heap.size) : ∀ b, Fresh w W row b → Fresh w W' row b := fun b h => ⟨h.1, Nat.lt_of_lt_of_le h.2.1 hs, h.2.2⟩
theorem fresh_out {w W : World} {row : Option Nat} : ∀ b, Fresh w W row b → Out W row b := fun b h => ⟨h.2.1, h.2.2⟩

/-- A row of changes, the first k of them with lines of their own. -/
def OwnK (w W : World) (v : Value) (l : List Ch) (k : Nat) : Prop := ∃ xs, W.ownsRow w.heap.size 51 6 v l.length xs ∧ PCells W (Fresh w W v.ownBlock) (l.take k) xs ∧ PCells W (Out W v.ownBlock) l xs
section
variable {w W W' : World} {v : Value} {l : List Ch} {k : Nat}
theorem ownK_start (h : OwnP W w.heap.size v l) : OwnK w W v l 0 := by
  obtain ⟨xs, h1, h2⟩ := h
  exact ⟨xs, h1, by rw [List.take_zero]; exact PCells.nil _ _ _, h2⟩
theorem OwnK.own (h : OwnK w W v l k) : OwnP W w.heap.size v l := by
  obtain ⟨xs, h1, h2, h3⟩ := h
  exact ⟨xs, h1, h3⟩
theorem OwnK.done (h : OwnK w W v l k) (hk : l.length ≤ k) : OwnS W (Fresh w W v.ownBlock) w.heap.size v l := by
  obtain ⟨xs, h1, h2, h3⟩ := h
  rw [List.take_of_length_le hk] at h2
  exact ⟨xs, h1, h2⟩
theorem OwnK.below (h : OwnK w W v l k) (hb : Below W.heap.size W W') : OwnK w W' v l k := by
  obtain ⟨xs, h1, h2, h3⟩ := h
  exact ⟨xs, own_gr h1 (below_gr_row hb), (h2.to (fun b _ hl => hb.block b hl)).mono (fresh_up hb.size), (h3.to (fun b _ hl => hb.block b hl)).mono (out_up hb.size)⟩
theorem OwnK.step {g n cap : Nat} {x : Ch} {D D' : Option Addr} {m d m' d' : Nat} (h : OwnK w W (.slice (some ⟨g, 0, none⟩) n cap) l k) (hx : l[k]? = some x) (hy : PG W (Fresh w W (some g)) D m d D' m' d' x) :
    OwnK w ((W.setCell ⟨g, k * 6 + 4, none⟩ (.slice D m d)).setCell ⟨g, k * 6 + 5, none⟩ (.slice D' m' d')) (.slice (some ⟨g, 0, none⟩) n cap) l (k + 1) := by
  obtain ⟨xs, hr, h2, h3⟩ := h
  have hn : l.length = n := by
    rcases hr.2 with ⟨h0, _⟩ | ⟨g', cap', cur, h0, _⟩
    · cases h0
    · injection h0 with _ h0; exact h0.symm
  subst hn
  have hk : k < l.length := (List.getElem?_eq_some_iff.1 hx).1
  have hxl := hr.1
  obtain ⟨r1, g1⟩ := hr.stored (k * 6 + 4) (.slice D m d)
  obtain ⟨r2, g2⟩ := r1.stored (k * 6 + 5) (.slice D' m' d')
  have al : ∀ (S : Nat → Prop), (∀ b, S b → b ≠ g) → Alike S W ((W.setCell ⟨g, k * 6 + 4, none⟩ (.slice D m d)).setCell ⟨g, k * 6 + 5, none⟩ (.slice D' m' d')) := fun S hS b hb hl =>
    (alike_set _ g _ _ b (hS b hb) (by simp; exact hl)).trans (alike_set W g _ _ b (hS b hb) hl)
  have sz : W.heap.size ≤ ((W.setCell ⟨g, k * 6 + 4, none⟩ (.slice D m d)).setCell ⟨g, k * 6 + 5, none⟩ (.slice D' m' d')).heap.size := by simp
  have c0 : CellsAt W (Out W (some g)) xs k x := h3 k x hx
  refine ⟨_, r2, ?_, ?_⟩
  · refine (PCells.to (W := W) (S := Fresh w W (some g)) ?_ (al _ fun b hb e => hb.2.2 (by rw [e]))).mono (fresh_up sz)
    intro p y hy'
    rw [List.getElem?_take] at hy'
    by_cases e : p = k
    · subst e
      rw [if_pos (by omega)] at hy'
      rw [hx] at hy'
      injection hy' with hy'
      subst hy'
      exact cellsAt_new c0 (by omega) hy
    · have hp : p < k := by
        by_cases hp : p < k + 1
        · omega
        · rw [if_neg hp] at hy'; cases hy'
      rw [if_pos (by omega)] at hy'
      exact cellsAt_set (h2 p y (by rw [List.getElem?_take, if_pos hp]; exact hy')) e _ _
  · refine (PCells.to (W := W) (S := Out W (some g)) ?_ (al _ fun b hb e => hb.2 (by rw [e]))).mono (out_up sz)
    intro p y hy'
    by_cases e : p = k
    · subst e
      rw [hx] at hy'
      injection hy' with hy'
      subst hy'
      exact cellsAt_new c0 (by omega) (hy.mono fresh_out)
    · exact cellsAt_set (h3 p y hy') e _ _
end

/-- How own ends. -/
def MineEnd (w : World) (n : Nat) (l : List Ch) (e : Ending) (w' : World) : Prop :=
  ∃ A c, e = .returned (.slice A n c) ∧ n ≤ c ∧ OwnS w' (Fresh w w' (Value.slice A n c).ownBlock) w.heap.size (.slice A n c) l ∧ Below w.heap.size w w'

set_option maxRecDepth 100000 in
set_option maxHeartbeats 4000000 in
theorem ownL (A : Option Addr) (n c : Nat) (l : List Ch) (w : World) (hn : l.length = n) (hle : n ≤ 1000) (hl : Lt l) (hR : RdP w (· < w.heap.size) A l) :
    Calls Try.prog 39 #[.slice A n c] w (MineEnd w n l) := by
  have HR := Lib.hid hR; have HN := Lib.hid hn; have HL := Lib.hid hl
  clear hR hn hl
  go_enter Try.func39, Try.ntmps39
  go_wp2_with (at_builtin; refine wpList_ownPL rfl (.const (.slice none 0 0)) (.tmp 6) rfl w.heap.size w.heap.size n c (.slice none 0 0) A [] l rfl rfl (ownP_nil _ _) HR.out (Nat.le_refl _) HN.out (by simp; omega) (Nat.le_refl _) ?_; intro v w1 ho hg; have HO := Lib.hid (show OwnP w1 w.heap.size v l from ho); have HB := Lib.hid ((Below.refl w.heap.size w).grown hg (Nat.le_refl _) (fun k e => by cases e)); clear ho hg; obtain ⟨A1, c1, hv1, hc1⟩ : ∃ A1 c1, v = .slice A1 n c1 ∧ n ≤ c1 := (rdP_own HO.out).elim fun A1 h => h.elim fun c1 h => ⟨A1, c1, by rw [← HN.out]; exact h.1, by rw [← HN.out]; exact h.2.1⟩; subst hv1)
  clear HR
  go_loopw [10] (fun i wr => ∃ k : Nat, k ≤ n ∧ i = .int .i64 (k : Int) ∧ OwnK w wr (.slice A1 n c1) l k ∧ Below w.heap.size w wr) (fun i _ => n - (intOf i).toNat)
  case atStart => exact ⟨0, Nat.zero_le _, rfl, ownK_start HO.out, HB.out⟩
  case round =>
    clear HO HB
    obtain ⟨k, hk, rfl, ho, hb⟩ := hrel
    have HB := Lib.hid hb; have HO := Lib.hid ho
    clear hb ho
    by_cases hlt : k < n
    · obtain ⟨g, cap, e, hg1, hg2⟩ : ∃ g cap, Value.slice A1 n c1 = .slice (some ⟨g, 0, none⟩) n cap ∧ w.heap.size ≤ g ∧ g < wr.heap.size := by
        obtain ⟨xs, hr, _⟩ := HO.out
        rcases hr.2 with ⟨_, h1⟩ | ⟨g, cap, cur, e, hbg, hgb, hc, _⟩
        · have := HN.out; omega
        · injection e with e1 e2 e3
          subst e1 e3
          exact ⟨g, c1, rfl, hbg, (Array.getElem?_eq_some_iff.1 hgb).1⟩
      injection e with e1 e2 e3
      subst e1 e3
      clear e2
      have hki : (k : Int) < (n : Int) := by omega
      obtain ⟨x, hx⟩ : ∃ x, l[k]? = some x := ⟨_, List.getElem?_eq_getElem (by rw [HN.out]; exact hlt)⟩
      obtain ⟨B, i, j, D, m, d, c0, c1', c2, c3, c4, c5, hf, hp⟩ := OwnS.elem HO.out.own HN.out hx
      have HX := Lib.hid hx
      have HLX := Lib.hid (lt_len hp (HL.out x (List.mem_of_getElem? hx)))
      have HBX := Lib.hid (Blk.new wr 51 #[.int .i64 x.k, strV x.nm, strV x.to, .int .i64 x.h.pos, .slice B i j, .slice D m d])
      have HP := Lib.hid ((hp.mono fun b h => h.1).pv)
      clear hx hf hp
      have hba : Below wr.heap.size wr (wr.alloc (.cells #[.int .i64 x.k, strV x.nm, strV x.to, .int .i64 x.h.pos, .slice B i j, .slice D m d] 51)) := (Below.refl _ _).alloc (Nat.le_refl _) _
      have HPW := Lib.hid (HP.out.below hba); have HOW := Lib.hid (HO.out.below hba); have HBW := Lib.hid (HB.out.trans (hba.mono HB.out.size))
      have hsz : (wr.alloc (.cells #[.int .i64 x.k, strV x.nm, strV x.to, .int .i64 x.h.pos, .slice B i j, .slice D m d] 51)).heap.size = wr.heap.size + 1 := by simp
      have HSZ := Lib.hid hsz
      clear hba hsz HP HO HB
      go_upto_region 5 with fail
      clear c0 c1' c2 c3 c4 c5
      generalize (wr.alloc (.cells #[.int .i64 x.k, strV x.nm, strV x.to, .int .i64 x.h.pos, .slice B i j, .slice D m d] 51)) = W at *
      obtain ⟨z, hz⟩ : ∃ z, wr.heap.size = z := ⟨_, rfl⟩
      rw [hz] at HBX HPW HSZ hg2 ⊢
      clear hz
      have hlx := HLX.out
      have PX : Hid (∀ X, Below W.heap.size W X → Calls Try.prog 53 #[.slice B i j] X (fun e u => ∃ P p, e = .returned (.slice P i p) ∧ i ≤ p ∧ RdS u u.heap.size P x.h.old ∧ Hi X.heap.size P ∧ X.grownBy u none)) := Lib.hid (fun X hb => ownLines B i j z x.h.old X HPW.out.h.l (by omega) (by have := HSZ.out; have := hb.size; omega) (Rd.below HPW.out.h.r (hb.mono (by have := HSZ.out; omega))))
      have PY : Hid (∀ X, Below W.heap.size W X → Calls Try.prog 53 #[.slice D m d] X (fun e u => ∃ P p, e = .returned (.slice P m p) ∧ m ≤ p ∧ RdS u u.heap.size P x.h.new ∧ Hi X.heap.size P ∧ X.grownBy u none)) := Lib.hid (fun X hb => ownLines D m d z x.h.new X HPW.out.h.l' (by omega) (by have := HSZ.out; have := hb.size; omega) (Rd.below HPW.out.h.r' (hb.mono (by have := HSZ.out; omega))))
      have HGZ := Lib.hid (show z ≠ g by omega)
      have HSB : Hid (∀ X, Blk X z 51 #[.int .i64 x.k, strV x.nm, strV x.to, .int .i64 x.h.pos, .slice B i j, .slice D m d] → X.cell? ⟨z, 4, none⟩ = some (.slice B i j) ∧ X.cell? ⟨z, 5, none⟩ = some (.slice D m d)) := Lib.hid (fun X b => ⟨b.cell 4 rfl, b.cell 5 rfl⟩)
      have HC : Hid (∀ X, Below W.heap.size W X → X.cell? ⟨z, 4, none⟩ = some (.slice B i j) ∧ X.cell? ⟨z, 5, none⟩ = some (.slice D m d)) := Lib.hid (fun X hb => HSB.out X (HBX.out.below hb HBX.out.lt))
      have HKD := Lib.hid (HC.out W.drew (below_drewN (Below.refl _ _) 1))
      have hzl := HBX.out.lt
      obtain ⟨z4, z5⟩ := HC.out W (Below.refl _ _)
      go_region_held3 (fun X => X.cell? ⟨z, 4, none⟩ = some (.slice B i j) ∧ X.cell? ⟨z, 5, none⟩ = some (.slice D m d))
        (first | (with_reducible exact HKD.out) | (with_reducible exact hS5) | (with_reducible exact hS6) | (with_reducible exact HK2.out _ _) | (with_reducible exact HK3.out _ _ _ _))
        (first
          | (go_at_call 53; (with_reducible refine (PX.out W.drew (below_drewN (Below.refl _ _) 1)).mono ?_); rintro e w5 ⟨P5, p5, rfl, hk5, hr5, hh5, hg5⟩; have hbu := (below_drewN (Below.refl W.heap.size W) 1).trans (below_gr hg5); have hS5 := HC.out w5 hbu; have HU5 := Lib.hid hbu; have HR5 := Lib.hid hr5; have HH5 := Lib.hid hh5; have HK5 := Lib.hid hk5; clear hg5 hbu hr5 hh5 hk5)
          | (go_at_call 53; (with_reducible refine (PY.out w5 HU5.out).mono ?_); rintro e w6 ⟨P6, p6, rfl, hk6, hr6, hh6, hg6⟩; have hb6 := below_gr hg6; have hbu := HU5.out.trans (hb6.mono HU5.out.size); have hS6 := HC.out w6 hbu; have HU6 := Lib.hid hbu; have HB6 := Lib.hid hb6; have HR6 := Lib.hid hr6; have HH6 := Lib.hid hh6; have HK6 := Lib.hid hk6;
              have bz := HBX.out.below hbu HBX.out.lt;
              have HK2 := Lib.hid (fun (a : Nat) (v : Value) => HSB.out _ (bz.set_ne HGZ.out a v));
              have HK3 := Lib.hid (fun (a : Nat) (v : Value) (a' : Nat) (v' : Value) => HSB.out _ ((bz.set_ne HGZ.out a v).set_ne HGZ.out a' v'));
              have ho6 := HOW.out.below hbu; have HO6 := Lib.hid ho6;
              obtain ⟨_, _, _, _, _, _, q0, q1, q2, q3, q4, q5, qf, _⟩ := OwnS.elem ho6.own HN.out HX.out;
              have f4 := qf (k * 6 + 4); have f5 := qf (k * 6 + 5);
              clear q0 q1 q2 q3 qf ho6 bz hb6 hbu hr6 hh6 hk6 hg6))
      have HGL := Lib.hid (And.intro hg1 hg2)
      clear z4 z5 q4 q5 f4 f5 hS5 hS6 hzl HK2 HK3 HKD HC HSB PX PY
      go_wp2_with fail
      go_roundw
      case rel =>
        have v := HPW.out
        have hsz := HSZ.out
        have hgl := HGL.out
        have e5 : w5.heap.size ≤ w6.heap.size := HB6.out.size
        have u5 : W.heap.size ≤ w5.heap.size := HU5.out.size
        have r5 : RdG w6 (Fresh w w6 (some g)) P5 (x.h.old.map strV) := (rdG_hi (Rd.below HR5.out HB6.out) HH5.out).mono fun b hb => by
          have h1 : W.heap.size ≤ b := hb.1
          have h2 : b < w5.heap.size := hb.2
          exact ⟨by omega, by omega, fun e => by injection e with e; omega⟩
        have r6 : RdG w6 (Fresh w w6 (some g)) P6 (x.h.new.map strV) := (rdG_hi HR6.out HH6.out).mono fun b hb => by
          have h1 : w5.heap.size ≤ b := hb.1
          have h2 : b < w6.heap.size := hb.2
          exact ⟨by omega, by omega, fun e => by injection e with e; omega⟩
        refine ⟨k + 1, by omega, by go_num, OwnK.step HO6.out HX.out ⟨v.h.l, v.h.l', HK5.out, HK6.out, v.h.m, v.h.m', r5, r6, v.h.p, v.k, v.nm, v.to, v.s, v.s'⟩, ?_⟩
        exact ((HBW.out.trans (HU6.out.mono HBW.out.size)).setCell (p := ⟨g, k * 6 + 4, none⟩) hgl.1 _).setCell (p := ⟨g, k * 6 + 5, none⟩) hgl.1 _
      case measure => simp [intOf]; omega
    · have HE : Hid (l.length ≤ k) := Lib.hid (by rw [HN.out]; omega)
      go_wp2
      go_ret
      exact ⟨A1, c1, rfl, hc1, HO.out.done HE.out, HB.out⟩

end Fl
end Go.Proofs.Ytbiiabfhngdeiaa

set_option maxRecDepth 100000
namespace Go.Proofs.Ytbiiabfhngdeiaa
open Go.RowKit
set_option linter.unusedVariables false
namespace Fl
open Tx Df Sq Hk Tr Pr

theorem set_mid {α : Type} {l post : List α} {k : Nat} {p y : α} (h : l[k]? = some p) : (l.take (k + 1) ++ post).set k y = l.take k ++ y :: post := by
  have hk : k < l.length := (List.getElem?_eq_some_iff.1 h).1
  have hl : (l.take k).length = k := by rw [List.length_take]; omega
  rw [take_at h, List.append_assoc, List.set_append_right _ _ (by omega), hl, Nat.sub_self]
  rfl
theorem at_mid {α : Type} {l post : List α} {k : Nat} {p : α} (h : l[k]? = some p) : (l.take (k + 1) ++ post)[k]? = some p := by
  have hk : k < l.length := (List.getElem?_eq_some_iff.1 h).1
  rw [List.getElem?_append_left (by rw [List.length_take]; omega), List.getElem?_take, if_pos (by omega)]
  exact h
theorem len_mid {α : Type} {l post : List α} {k n : Nat} (h : post.length + k = n) (hl : l.length = n) : (l.take k ++ post).length = n := by
  rw [List.length_append, List.length_take]; omega

def outF (o : Option (List Ch × List Ch)) : List Ch × List Ch := o.getD ([], [])
section
variable {w w' : World} {x y x' y' : List Ch} {bo : Bool} {o : Option (List Ch × List Ch)}
theorem outF_of (h : outF o = (x, y)) (hb : o.isSome = true) : o = some (x, y) := by
  cases o with
  | none => cases hb
  | some z => exact congrArg some h
end
theorem ownS_lt {W : World} {S : Nat → Prop} {base : Nat} {v : Value} {l : List Ch} (h : OwnS W S base v l) : ∀ g, v.ownBlock = some g → g < W.heap.size := fun g hg => by
  obtain ⟨xs, hr, hF⟩ := h
  rcases hr.2 with ⟨rfl, _⟩ | ⟨g', cap, cur, rfl, hbg, hg', hc, _⟩
  · cases hg
  · injection hg with hg
    subst hg
    exact (Array.getElem?_eq_some_iff.1 hg').1
theorem ownS_ge {W : World} {S : Nat → Prop} {base : Nat} {v : Value} {l : List Ch} (h : OwnS W S base v l) : ∀ g, v.ownBlock = some g → base ≤ g := fun g hg => by
  obtain ⟨xs, hr, hF⟩ := h
  exact own_ge hr g hg
theorem ownS_slice {W : World} {S : Nat → Prop} {base : Nat} {v : Value} {l : List Ch} (h : OwnS W S base v l) : ∃ A c, v = .slice A l.length c ∧ l.length ≤ c := by
  obtain ⟨xs, hr, hF⟩ := h
  rcases hr.2 with ⟨rfl, h1⟩ | ⟨g, cap, cur, rfl, hbg, hg, hc, _⟩
  · exact ⟨none, 0, by rw [h1], by rw [h1]; exact Nat.le_refl _⟩
  · exact ⟨_, cap, rfl, hc⟩
/-- A row of one's own is read as changes. -/
theorem rdP_of_own {W : World} {S : Nat → Prop} {base n c : Nat} {A : Option Addr} {l : List Ch} (h : OwnS W S base (.slice A n c) l) (hS : ∀ b, S b → b < W.heap.size) (hl : l.length = n) : RdP W (· < W.heap.size) A l := by
  by_cases h0 : l = []
  · exact .inl h0
  have hr0 := h
  obtain ⟨xs, hr, _⟩ := hr0
  rcases hr.2 with ⟨_, h1⟩ | ⟨g, cap, cur, e, _, hgb, hc, _⟩
  · exact absurd (List.eq_nil_of_length_eq_zero h1) h0
  · injection e with e1 e2 e3
    subst e1
    refine .inr ⟨_, rfl, (Array.getElem?_eq_some_iff.1 hgb).1, fun k x hx => ?_⟩
    obtain ⟨B, i', j, D, m', d, c0, c1, c2, c3, c4, c5, _, hp⟩ := h.elem hl hx
    have ea : (⟨g, 0, none⟩ : Addr).add (k * 6) = ⟨g, k * 6, none⟩ := by unfold Addr.add; split <;> simp_all
    exact ⟨by rw [ea]; exact c0, by rw [ea]; exact c1, by rw [ea]; exact c2, by rw [ea]; exact c3, B, i', j, D, m', d, by rw [ea]; exact c4, by rw [ea]; exact c5, hp.mono hS⟩

end Fl
end Go.Proofs.Ytbiiabfhngdeiaa
