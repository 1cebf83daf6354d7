/-
  What the document's own names, apart, lines and Pass of layer 9 return (walks).
-/
import Derived.Test.YtbiiabfhngdeiaaGZ
import Derived.Test.YtbiiabfhngdeiaaGR
import Derived.Test.YtbiiabfhngdeiaaSwRef
import Derived.Deep.Cut
set_option maxRecDepth 100000
namespace Go.Proofs.Ytbiiabfhngdeiaa
open Go.RowKit
set_option linter.unusedVariables false
set_option linter.unusedSimpArgs false
namespace Pr
open Tx Df Sq Hk Tr

section
variable {p q : Ch}
theorem passP_no1 (h : mayP p = false) : passP p q = none := by unfold passP; rw [if_pos (.inl h)]
theorem passP_no2 (h : mayP q = false) : passP p q = none := by unfold passP; rw [if_pos (.inr h)]
theorem passP_ap (hp : mayP p = true) (hq : mayP q = true) (h : apartP p q = true) : passP p q = some (q, p) := passP_apart hp hq (apartP_iff.1 h)
theorem passP_b (hp : mayP p = true) (hq : mayP q = true) (h : apartP p q = false) (kp : p.k = 3) (kq : q.k = 3) : passP p q = (Sw.passH p.h q.h).map fun z => (⟨q.k, q.nm, q.to, z.1⟩, ⟨p.k, p.nm, p.to, z.2⟩) := by
  unfold passP
  rw [if_neg (may_not hp hq), if_neg (by rw [h]; decide), if_pos ⟨kp, kq⟩]
theorem passP_o (hp : mayP p = true) (hq : mayP q = true) (h : apartP p q = false) (kp : p.k = 2) (kq : q.k = 3 ∨ q.k = 4) (hn : q.nm = p.to) : passP p q = some (⟨q.k, p.nm, q.to, q.h⟩, p) := by
  unfold passP
  rw [if_neg (may_not hp hq), if_neg (by rw [h]; decide), if_neg (by omega), if_pos ⟨kp, kq, hn⟩]
theorem passP_i (hp : mayP p = true) (hq : mayP q = true) (h : apartP p q = false) (kq : q.k = 2) (kp : p.k = 3 ∨ p.k = 4) (hn : p.nm = q.nm) : passP p q = some (q, ⟨p.k, q.to, p.to, p.h⟩) := by
  unfold passP
  rw [if_neg (may_not hp hq), if_neg (by rw [h]; decide), if_neg (by omega), if_neg (by omega), if_pos ⟨kq, kp, hn⟩]
theorem passP_n (h : apartP p q = false) (h3 : ¬ (p.k = 3 ∧ q.k = 3)) (ho : ¬ (p.k = 2 ∧ (q.k = 3 ∨ q.k = 4) ∧ q.nm = p.to)) (hi : ¬ (q.k = 2 ∧ (p.k = 3 ∨ p.k = 4) ∧ p.nm = q.nm)) : passP p q = none := by
  unfold passP
  by_cases hm : mayP p = false ∨ mayP q = false
  · rw [if_pos hm]
  · rw [if_neg hm, if_neg (show ¬ apartP p q = true by rw [h]; decide), if_neg h3, if_neg ho, if_neg hi]
end

/-- Two changes stored, one behind the other. -/
theorem two_set6 {W : World} {b b' : Nat} {t : TypeId} {x0 x1 x2 x3 x4 x5 y0 y1 y2 y3 y4 y5 : Value} (h : Blk W b t #[x0, x1, x2, x3, x4, x5]) (h' : Blk W b' t #[y0, y1, y2, y3, y4, y5]) (hne : b ≠ b') (v0 v1 v2 v3 v4 v5 u0 u1 u2 u3 u4 u5 : Value) :
    Blk ((((((((((((W.setCell ⟨b, 0, none⟩ v0).setCell ⟨b, 1, none⟩ v1).setCell ⟨b, 2, none⟩ v2).setCell ⟨b, 3, none⟩ v3).setCell ⟨b, 4, none⟩ v4).setCell ⟨b, 5, none⟩ v5).setCell ⟨b', 0, none⟩ u0).setCell ⟨b', 1, none⟩ u1).setCell ⟨b', 2, none⟩ u2).setCell ⟨b', 3, none⟩ u3).setCell ⟨b', 4, none⟩ u4).setCell ⟨b', 5, none⟩ u5) b t #[v0, v1, v2, v3, v4, v5] ∧
    Blk ((((((((((((W.setCell ⟨b, 0, none⟩ v0).setCell ⟨b, 1, none⟩ v1).setCell ⟨b, 2, none⟩ v2).setCell ⟨b, 3, none⟩ v3).setCell ⟨b, 4, none⟩ v4).setCell ⟨b, 5, none⟩ v5).setCell ⟨b', 0, none⟩ u0).setCell ⟨b', 1, none⟩ u1).setCell ⟨b', 2, none⟩ u2).setCell ⟨b', 3, none⟩ u3).setCell ⟨b', 4, none⟩ u4).setCell ⟨b', 5, none⟩ u5) b' t #[u0, u1, u2, u3, u4, u5] :=
  ⟨((((((blk6 h v0 v1 v2 v3 v4 v5).set_ne hne 0 u0).set_ne hne 1 u1).set_ne hne 2 u2).set_ne hne 3 u3).set_ne hne 4 u4).set_ne hne 5 u5,
   blk6 ((((((h'.set_ne hne.symm 0 v0).set_ne hne.symm 1 v1).set_ne hne.symm 2 v2).set_ne hne.symm 3 v3).set_ne hne.symm 4 v4).set_ne hne.symm 5 v5) u0 u1 u2 u3 u4 u5⟩
theorem below_set12 {B : Nat} {w W : World} {b b' : Nat} (h : Below B w W) (hb : B ≤ b) (hb' : B ≤ b') (v0 v1 v2 v3 v4 v5 u0 u1 u2 u3 u4 u5 : Value) :
    Below B w ((((((((((((W.setCell ⟨b, 0, none⟩ v0).setCell ⟨b, 1, none⟩ v1).setCell ⟨b, 2, none⟩ v2).setCell ⟨b, 3, none⟩ v3).setCell ⟨b, 4, none⟩ v4).setCell ⟨b, 5, none⟩ v5).setCell ⟨b', 0, none⟩ u0).setCell ⟨b', 1, none⟩ u1).setCell ⟨b', 2, none⟩ u2).setCell ⟨b', 3, none⟩ u3).setCell ⟨b', 4, none⟩ u4).setCell ⟨b', 5, none⟩ u5) :=
  (((((((((((h.setCell (p := ⟨b, 0, none⟩) hb v0).setCell (p := ⟨b, 1, none⟩) hb v1).setCell (p := ⟨b, 2, none⟩) hb v2).setCell (p := ⟨b, 3, none⟩) hb v3).setCell (p := ⟨b, 4, none⟩) hb v4).setCell (p := ⟨b, 5, none⟩) hb v5).setCell (p := ⟨b', 0, none⟩) hb' u0).setCell (p := ⟨b', 1, none⟩) hb' u1).setCell (p := ⟨b', 2, none⟩) hb' u2).setCell (p := ⟨b', 3, none⟩) hb' u3).setCell (p := ⟨b', 4, none⟩) hb' u4).setCell (p := ⟨b', 5, none⟩) hb' u5
theorem three_set {W : World} {b : Nat} {t : TypeId} {b' : Nat} {x : Array Value} (h : Blk W b t x) (hne : b ≠ b') (v3 v4 v5 : Value) : Blk (((W.setCell ⟨b', 3, none⟩ v3).setCell ⟨b', 4, none⟩ v4).setCell ⟨b', 5, none⟩ v5) b t x :=
  ((h.set_ne hne 3 v3).set_ne hne 4 v4).set_ne hne 5 v5

set_option maxHeartbeats 1000000 in
theorem refNames (A : Option Addr) (n c : Nat) (A' : Option Addr) (n' c' : Nat) (p : Ch) (s : List UInt8) (w : World) (b : Bool) (hb : namesP p s = b) :
    Calls Try.prog 86 #[prV p.k p.nm p.to p.h.pos A n c A' n' c', strV s] w (TestEnd w b) := by
  have HB := Lib.hid hb.symm
  clear hb
  have hw : Below w.heap.size w (w.alloc (.cells #[.int .i64 p.k, strV p.nm, strV p.to, .int .i64 p.h.pos, .slice A n c, .slice A' n' c'] 51)) := (Below.refl _ _).alloc (Nat.le_refl _) _
  have HW := Lib.hid hw; clear hw
  unfold namesP at HB
  by_cases h1 : p.nm = s
  · have e1 : (p.nm == s) = true := by simpa using h1
    have H1 := Lib.hid h1; clear h1
    go_enter Try.func86, Try.ntmps86
    go_wp2
    go_ret
    exact ⟨ret_bool (by rw [HB.out, decide_eq_true H1.out]; rfl), HW.out⟩
  have e1 : (p.nm == s) = false := by simpa using h1
  have H1 := Lib.hid h1; clear h1
  by_cases h2 : p.k = 2
  · have e2 : (p.k == 2) = true := by simpa using h2
    have H2 := Lib.hid h2; clear h2
    cases h3 : (p.to == s)
    all_goals
      go_enter Try.func86, Try.ntmps86
      go_wp2
      go_ret
    · exact ⟨ret_bool (by rw [HB.out, decide_eq_false H1.out, decide_eq_true H2.out, decide_eq_false (by simpa using h3)]; rfl), HW.out⟩
    · exact ⟨ret_bool (by rw [HB.out, decide_eq_false H1.out, decide_eq_true H2.out, decide_eq_true (by simpa using h3)]; rfl), HW.out⟩
  · have e2 : (p.k == 2) = false := by simpa using h2
    go_enter Try.func86, Try.ntmps86
    go_wp2
    go_ret
    exact ⟨ret_bool (by rw [HB.out, decide_eq_false H1.out, decide_eq_false h2]; rfl), HW.out⟩

set_option maxHeartbeats 1000000 in
theorem refLines (A : Option Addr) (n c : Nat) (A' : Option Addr) (n' c' : Nat) (p : Ch) (w : World) (b : Bool) (hb : (p.k == 3 || p.k == 4) = b) :
    Calls Try.prog 70 #[prV p.k p.nm p.to p.h.pos A n c A' n' c'] w (TestEnd w b) := by
  have HB := Lib.hid hb.symm
  clear hb
  have hw : Below w.heap.size w (w.alloc (.cells #[.int .i64 p.k, strV p.nm, strV p.to, .int .i64 p.h.pos, .slice A n c, .slice A' n' c'] 51)) := (Below.refl _ _).alloc (Nat.le_refl _) _
  have HW := Lib.hid hw; clear hw
  cases h1 : (p.k == 3)
  · cases h2 : (p.k == 4)
    all_goals
      go_enter Try.func70, Try.ntmps70
      go_wp2
      go_ret
      exact ⟨ret_bool (by rw [HB.out, h1, h2]; rfl), HW.out⟩
  · go_enter Try.func70, Try.ntmps70
    go_wp2
    go_ret
    exact ⟨ret_bool (by rw [HB.out, h1]; rfl), HW.out⟩

set_option maxHeartbeats 1000000 in
theorem refApart (A : Option Addr) (n c : Nat) (A' : Option Addr) (n' c' : Nat) (D : Option Addr) (m k : Nat) (D' : Option Addr) (m' k' : Nat) (p q : Ch) (w : World) (b : Bool) (hb : apartP p q = b) :
    Calls Try.prog 68 #[prV p.k p.nm p.to p.h.pos A n c A' n' c', prV q.k q.nm q.to q.h.pos D m k D' m' k'] w (TestEnd w b) := by
  have HB := Lib.hid hb.symm
  clear hb
  obtain ⟨b1, h1⟩ : ∃ b, namesP p q.nm = b := ⟨_, rfl⟩
  obtain ⟨b2, h2⟩ : ∃ b, namesP p q.to = b := ⟨_, rfl⟩
  have H1 := Lib.hid h1; have H2 := Lib.hid h2; clear h1 h2
  have hw := two_box w (.cells #[.int .i64 p.k, strV p.nm, strV p.to, .int .i64 p.h.pos, .slice A n c, .slice A' n' c'] 51) (.cells #[.int .i64 q.k, strV q.nm, strV q.to, .int .i64 q.h.pos, .slice D m k, .slice D' m' k'] 51)
  have b0 := (Blk.new w 51 #[.int .i64 p.k, strV p.nm, strV p.to, .int .i64 p.h.pos, .slice A n c, .slice A' n' c']).alloc (.cells #[.int .i64 q.k, strV q.nm, strV q.to, .int .i64 q.h.pos, .slice D m k, .slice D' m' k'] 51)
  have c0 := Blk.new (w.alloc (.cells #[.int .i64 p.k, strV p.nm, strV p.to, .int .i64 p.h.pos, .slice A n c, .slice A' n' c'] 51)) 51 #[.int .i64 q.k, strV q.nm, strV q.to, .int .i64 q.h.pos, .slice D m k, .slice D' m' k']
  simp only [World.size_alloc] at c0
  go_enter Try.func68, Try.ntmps68
  go_wp2_with fail
  generalize ((w.alloc (.cells #[.int .i64 p.k, strV p.nm, strV p.to, .int .i64 p.h.pos, .slice A n c, .slice A' n' c'] 51)).alloc (.cells #[.int .i64 q.k, strV q.nm, strV q.to, .int .i64 q.h.pos, .slice D m k, .slice D' m' k'] 51)) = w1 at *
  have HW1 := Lib.hid hw; have HB1 := Lib.hid b0; have HC1 := Lib.hid c0
  clear hw b0 c0
  refine (refNames A n c A' n' c' p q.nm w1 b1 H1.out).mono ?_
  rintro e w2 ⟨rfl, hb⟩
  have HW2 := Lib.hid (HW1.out.trans (hb.mono HW1.out.size)); have HB2 := Lib.hid (HB1.out.below hb HB1.out.lt); have HC2 := Lib.hid (HC1.out.below hb HC1.out.lt)
  clear hb HW1 HB1 HC1
  have x0 : w2.cell? ⟨w.heap.size, 0, none⟩ = some (.int .i64 p.k) := HB2.out.cell 0 rfl; have x1 : w2.cell? ⟨w.heap.size, 1, none⟩ = some (strV p.nm) := HB2.out.cell 1 rfl; have x2 : w2.cell? ⟨w.heap.size, 2, none⟩ = some (strV p.to) := HB2.out.cell 2 rfl; have x3 : w2.cell? ⟨w.heap.size, 3, none⟩ = some (.int .i64 p.h.pos) := HB2.out.cell 3 rfl; have x4 : w2.cell? ⟨w.heap.size, 4, none⟩ = some (.slice A n c) := HB2.out.cell 4 rfl; have x5 : w2.cell? ⟨w.heap.size, 5, none⟩ = some (.slice A' n' c') := HB2.out.cell 5 rfl
  have y0 : w2.cell? ⟨w.heap.size + 1, 0, none⟩ = some (.int .i64 q.k) := HC2.out.cell 0 rfl; have y1 : w2.cell? ⟨w.heap.size + 1, 1, none⟩ = some (strV q.nm) := HC2.out.cell 1 rfl; have y2 : w2.cell? ⟨w.heap.size + 1, 2, none⟩ = some (strV q.to) := HC2.out.cell 2 rfl; have y3 : w2.cell? ⟨w.heap.size + 1, 3, none⟩ = some (.int .i64 q.h.pos) := HC2.out.cell 3 rfl; have y4 : w2.cell? ⟨w.heap.size + 1, 4, none⟩ = some (.slice D m k) := HC2.out.cell 4 rfl; have y5 : w2.cell? ⟨w.heap.size + 1, 5, none⟩ = some (.slice D' m' k') := HC2.out.cell 5 rfl
  go_wp2_with fail
  refine (refNames A n c A' n' c' p q.to w2 b2 H2.out).mono ?_
  rintro e w3 ⟨rfl, hb⟩
  clear x0 x1 x2 x3 x4 x5 y0 y1 y2 y3 y4 y5
  have HW3 := Lib.hid (HW2.out.trans (hb.mono HW2.out.size)); have HB3 := Lib.hid (HB2.out.below hb HB2.out.lt); have HC3 := Lib.hid (HC2.out.below hb HC2.out.lt)
  clear hb HW2 HB2 HC2
  have x0 : w3.cell? ⟨w.heap.size, 0, none⟩ = some (.int .i64 p.k) := HB3.out.cell 0 rfl; have x1 : w3.cell? ⟨w.heap.size, 1, none⟩ = some (strV p.nm) := HB3.out.cell 1 rfl; have x2 : w3.cell? ⟨w.heap.size, 2, none⟩ = some (strV p.to) := HB3.out.cell 2 rfl; have x3 : w3.cell? ⟨w.heap.size, 3, none⟩ = some (.int .i64 p.h.pos) := HB3.out.cell 3 rfl; have x4 : w3.cell? ⟨w.heap.size, 4, none⟩ = some (.slice A n c) := HB3.out.cell 4 rfl; have x5 : w3.cell? ⟨w.heap.size, 5, none⟩ = some (.slice A' n' c') := HB3.out.cell 5 rfl
  have y0 : w3.cell? ⟨w.heap.size + 1, 0, none⟩ = some (.int .i64 q.k) := HC3.out.cell 0 rfl; have y1 : w3.cell? ⟨w.heap.size + 1, 1, none⟩ = some (strV q.nm) := HC3.out.cell 1 rfl; have y2 : w3.cell? ⟨w.heap.size + 1, 2, none⟩ = some (strV q.to) := HC3.out.cell 2 rfl; have y3 : w3.cell? ⟨w.heap.size + 1, 3, none⟩ = some (.int .i64 q.h.pos) := HC3.out.cell 3 rfl; have y4 : w3.cell? ⟨w.heap.size + 1, 4, none⟩ = some (.slice D m k) := HC3.out.cell 4 rfl; have y5 : w3.cell? ⟨w.heap.size + 1, 5, none⟩ = some (.slice D' m' k') := HC3.out.cell 5 rfl
  unfold apartP at HB
  rw [H1.out, H2.out] at HB
  by_cases hk : q.k = 2
  · have e1 : (q.k == 2) = true := by simpa using hk
    cases b1 <;> cases b2
    all_goals
      go_wp2
      go_ret
      exact ⟨ret_bool (by rw [HB.out]; simp [hk]), HW3.out⟩
  · have e1 : (q.k == 2) = false := by simpa using hk
    cases b1 <;> cases b2
    all_goals
      go_wp2
      go_ret
      exact ⟨ret_bool (by rw [HB.out]; simp [hk]), HW3.out⟩

set_option maxRecDepth 100000 in
set_option maxHeartbeats 8000000 in
theorem refPassE (A : Option Addr) (n c : Nat) (A' : Option Addr) (n' c' : Nat) (D : Option Addr) (m k : Nat) (D' : Option Addr) (m' k' : Nat) (p q : Ch) (w : World) (hl : n ≤ 1000 ∧ n' ≤ 1000) (gl : m ≤ 1000 ∧ m' ≤ 1000)
    (hv : PV w w.heap.size A n c A' n' c' p) (gv : PV w w.heap.size D m k D' m' k' q) :
    Calls Try.prog 56 #[prV p.k p.nm p.to p.h.pos A n c A' n' c', prV q.k q.nm q.to q.h.pos D m k D' m' k'] w (PPEndE A n c A' n' c' D m k D' m' k' w (passP p q)) := by
  have HV0 := Lib.hid hv; have GV0 := Lib.hid gv; have HL := Lib.hid hl; have GL := Lib.hid gl
  clear hl gl hv gv
  go_enter Try.func56, Try.ntmps56
  go_wp2_with fail
  have hw0 : Below w.heap.size w (((((w.alloc (.cells #[.int .i64 p.k, strV p.nm, strV p.to, .int .i64 p.h.pos, .slice A n c, .slice A' n' c'] 51)).alloc (.cells #[.int .i64 q.k, strV q.nm, strV q.to, .int .i64 q.h.pos, .slice D m k, .slice D' m' k'] 51)).alloc (.cells #[.int .i64 0, strV [], strV [], .int .i64 0, .slice none 0 0, .slice none 0 0] 51)).alloc (.cells #[.int .i64 0, strV [], strV [], .int .i64 0, .slice none 0 0, .slice none 0 0] 51)).alloc (.cells #[.int .i64 0, strV [], strV [], .int .i64 0, .slice none 0 0, .slice none 0 0] 51)) := (((((Below.refl _ _).alloc (Nat.le_refl _) _).alloc (by simp) _).alloc (by simp; omega) _).alloc (by simp; omega) _).alloc (by simp; omega) _
  have b0 := ((((Blk.new w 51 #[.int .i64 p.k, strV p.nm, strV p.to, .int .i64 p.h.pos, .slice A n c, .slice A' n' c']).alloc (.cells #[.int .i64 q.k, strV q.nm, strV q.to, .int .i64 q.h.pos, .slice D m k, .slice D' m' k'] 51)).alloc (.cells #[.int .i64 0, strV [], strV [], .int .i64 0, .slice none 0 0, .slice none 0 0] 51)).alloc (.cells #[.int .i64 0, strV [], strV [], .int .i64 0, .slice none 0 0, .slice none 0 0] 51)).alloc (.cells #[.int .i64 0, strV [], strV [], .int .i64 0, .slice none 0 0, .slice none 0 0] 51)
  have b1 := (((Blk.new (w.alloc (.cells #[.int .i64 p.k, strV p.nm, strV p.to, .int .i64 p.h.pos, .slice A n c, .slice A' n' c'] 51)) 51 #[.int .i64 q.k, strV q.nm, strV q.to, .int .i64 q.h.pos, .slice D m k, .slice D' m' k']).alloc (.cells #[.int .i64 0, strV [], strV [], .int .i64 0, .slice none 0 0, .slice none 0 0] 51)).alloc (.cells #[.int .i64 0, strV [], strV [], .int .i64 0, .slice none 0 0, .slice none 0 0] 51)).alloc (.cells #[.int .i64 0, strV [], strV [], .int .i64 0, .slice none 0 0, .slice none 0 0] 51)
  have b2 := ((Blk.new ((w.alloc (.cells #[.int .i64 p.k, strV p.nm, strV p.to, .int .i64 p.h.pos, .slice A n c, .slice A' n' c'] 51)).alloc (.cells #[.int .i64 q.k, strV q.nm, strV q.to, .int .i64 q.h.pos, .slice D m k, .slice D' m' k'] 51)) 51 #[.int .i64 0, strV [], strV [], .int .i64 0, .slice none 0 0, .slice none 0 0]).alloc (.cells #[.int .i64 0, strV [], strV [], .int .i64 0, .slice none 0 0, .slice none 0 0] 51)).alloc (.cells #[.int .i64 0, strV [], strV [], .int .i64 0, .slice none 0 0, .slice none 0 0] 51)
  have b3 := (Blk.new (((w.alloc (.cells #[.int .i64 p.k, strV p.nm, strV p.to, .int .i64 p.h.pos, .slice A n c, .slice A' n' c'] 51)).alloc (.cells #[.int .i64 q.k, strV q.nm, strV q.to, .int .i64 q.h.pos, .slice D m k, .slice D' m' k'] 51)).alloc (.cells #[.int .i64 0, strV [], strV [], .int .i64 0, .slice none 0 0, .slice none 0 0] 51)) 51 #[.int .i64 0, strV [], strV [], .int .i64 0, .slice none 0 0, .slice none 0 0]).alloc (.cells #[.int .i64 0, strV [], strV [], .int .i64 0, .slice none 0 0, .slice none 0 0] 51)
  have b4 := Blk.new ((((w.alloc (.cells #[.int .i64 p.k, strV p.nm, strV p.to, .int .i64 p.h.pos, .slice A n c, .slice A' n' c'] 51)).alloc (.cells #[.int .i64 q.k, strV q.nm, strV q.to, .int .i64 q.h.pos, .slice D m k, .slice D' m' k'] 51)).alloc (.cells #[.int .i64 0, strV [], strV [], .int .i64 0, .slice none 0 0, .slice none 0 0] 51)).alloc (.cells #[.int .i64 0, strV [], strV [], .int .i64 0, .slice none 0 0, .slice none 0 0] 51)) 51 #[.int .i64 0, strV [], strV [], .int .i64 0, .slice none 0 0, .slice none 0 0]
  simp only [World.size_alloc] at b1 b2 b3 b4
  generalize (((((w.alloc (.cells #[.int .i64 p.k, strV p.nm, strV p.to, .int .i64 p.h.pos, .slice A n c, .slice A' n' c'] 51)).alloc (.cells #[.int .i64 q.k, strV q.nm, strV q.to, .int .i64 q.h.pos, .slice D m k, .slice D' m' k'] 51)).alloc (.cells #[.int .i64 0, strV [], strV [], .int .i64 0, .slice none 0 0, .slice none 0 0] 51)).alloc (.cells #[.int .i64 0, strV [], strV [], .int .i64 0, .slice none 0 0, .slice none 0 0] 51)).alloc (.cells #[.int .i64 0, strV [], strV [], .int .i64 0, .slice none 0 0, .slice none 0 0] 51)) = w0 at *
  obtain ⟨g, hgs⟩ : ∃ g, w.heap.size = g := ⟨_, rfl⟩
  rw [hgs] at b0 b1 b2 b3 b4 ⊢
  rw [show g + 1 + 1 = g + 2 from rfl] at b2 b3 b4 ⊢
  rw [show g + 2 + 1 = g + 3 from rfl] at b3 b4 ⊢
  rw [show g + 3 + 1 = g + 4 from rfl] at b4 ⊢
  have HGS := Lib.hid hgs
  have hv0 := HV0.out.mv hw0; have gv0 := GV0.out.mv hw0
  rw [hgs] at hw0
  have HW0 := Lib.hid hw0
  have HB0w0 := Lib.hid b0; have HB1w0 := Lib.hid b1; have HB2w0 := Lib.hid b2; have HB3w0 := Lib.hid b3; have HB4w0 := Lib.hid b4
  clear hgs b0 b1 b2 b3 b4 hw0
  obtain ⟨bp, hbp⟩ : ∃ b, mayP p = b := ⟨_, rfl⟩
  obtain ⟨bq, hbq⟩ : ∃ b, mayP q = b := ⟨_, rfl⟩
  obtain ⟨ba, hba⟩ : ∃ b, apartP p q = b := ⟨_, rfl⟩
  have HBP := Lib.hid hbp; have HBQ := Lib.hid hbq; have HBA := Lib.hid hba
  clear hbp hbq hba
  have HWw0 := HW0
  have HVw0 := Lib.hid hv0; have GVw0 := Lib.hid gv0
  clear hv0 gv0 HW0
  have HGw0 := Lib.hid (show g ≤ w0.heap.size by have := HB4w0.out.lt; omega)
  refine (refMayP A n c A' n' c' _ p w0 bp (Nat.le_refl _) HVw0.out HBP.out).mono ?_
  rintro e w1 ⟨rfl, hb⟩
  have HVw1 := Lib.hid (HVw0.out.mv hb); have GVw1 := Lib.hid (GVw0.out.mv hb); clear HVw0 GVw0
  have HWw1 := Lib.hid (HWw0.out.trans (hb.mono HGw0.out)); have HGw1 := Lib.hid (Nat.le_trans HGw0.out hb.size)
  have HB0w1 := Lib.hid (HB0w0.out.below hb HB0w0.out.lt); have HB1w1 := Lib.hid (HB1w0.out.below hb HB1w0.out.lt); have HB2w1 := Lib.hid (HB2w0.out.below hb HB2w0.out.lt); have HB3w1 := Lib.hid (HB3w0.out.below hb HB3w0.out.lt); have HB4w1 := Lib.hid (HB4w0.out.below hb HB4w0.out.lt)
  clear hb HWw0 HGw0 HB0w0 HB1w0 HB2w0 HB3w0 HB4w0
  have x0 : w1.cell? ⟨g, 0, none⟩ = some (.int .i64 p.k) := HB0w1.out.cell 0 rfl; have x1 : w1.cell? ⟨g, 1, none⟩ = some (strV p.nm) := HB0w1.out.cell 1 rfl; have x2 : w1.cell? ⟨g, 2, none⟩ = some (strV p.to) := HB0w1.out.cell 2 rfl; have x3 : w1.cell? ⟨g, 3, none⟩ = some (.int .i64 p.h.pos) := HB0w1.out.cell 3 rfl; have x4 : w1.cell? ⟨g, 4, none⟩ = some (.slice A n c) := HB0w1.out.cell 4 rfl; have x5 : w1.cell? ⟨g, 5, none⟩ = some (.slice A' n' c') := HB0w1.out.cell 5 rfl
  have y0 : w1.cell? ⟨g + 1, 0, none⟩ = some (.int .i64 q.k) := HB1w1.out.cell 0 rfl; have y1 : w1.cell? ⟨g + 1, 1, none⟩ = some (strV q.nm) := HB1w1.out.cell 1 rfl; have y2 : w1.cell? ⟨g + 1, 2, none⟩ = some (strV q.to) := HB1w1.out.cell 2 rfl; have y3 : w1.cell? ⟨g + 1, 3, none⟩ = some (.int .i64 q.h.pos) := HB1w1.out.cell 3 rfl; have y4 : w1.cell? ⟨g + 1, 4, none⟩ = some (.slice D m k) := HB1w1.out.cell 4 rfl; have y5 : w1.cell? ⟨g + 1, 5, none⟩ = some (.slice D' m' k') := HB1w1.out.cell 5 rfl
  have u0 : w1.cell? ⟨g + 2, 0, none⟩ = some (.int .i64 0) := HB2w1.out.cell 0 rfl; have u1 : w1.cell? ⟨g + 2, 1, none⟩ = some (strV []) := HB2w1.out.cell 1 rfl; have u2 : w1.cell? ⟨g + 2, 2, none⟩ = some (strV []) := HB2w1.out.cell 2 rfl; have u3 : w1.cell? ⟨g + 2, 3, none⟩ = some (.int .i64 0) := HB2w1.out.cell 3 rfl; have u4 : w1.cell? ⟨g + 2, 4, none⟩ = some (.slice none 0 0) := HB2w1.out.cell 4 rfl; have u5 : w1.cell? ⟨g + 2, 5, none⟩ = some (.slice none 0 0) := HB2w1.out.cell 5 rfl
  have v0 : w1.cell? ⟨g + 3, 0, none⟩ = some (.int .i64 0) := HB3w1.out.cell 0 rfl; have v1 : w1.cell? ⟨g + 3, 1, none⟩ = some (strV []) := HB3w1.out.cell 1 rfl; have v2 : w1.cell? ⟨g + 3, 2, none⟩ = some (strV []) := HB3w1.out.cell 2 rfl; have v3 : w1.cell? ⟨g + 3, 3, none⟩ = some (.int .i64 0) := HB3w1.out.cell 3 rfl; have v4 : w1.cell? ⟨g + 3, 4, none⟩ = some (.slice none 0 0) := HB3w1.out.cell 4 rfl; have v5 : w1.cell? ⟨g + 3, 5, none⟩ = some (.slice none 0 0) := HB3w1.out.cell 5 rfl
  have s0 : w1.cell? ⟨g + 4, 0, none⟩ = some (.int .i64 0) := HB4w1.out.cell 0 rfl; have s1 : w1.cell? ⟨g + 4, 1, none⟩ = some (strV []) := HB4w1.out.cell 1 rfl; have s2 : w1.cell? ⟨g + 4, 2, none⟩ = some (strV []) := HB4w1.out.cell 2 rfl; have s3 : w1.cell? ⟨g + 4, 3, none⟩ = some (.int .i64 0) := HB4w1.out.cell 3 rfl; have s4 : w1.cell? ⟨g + 4, 4, none⟩ = some (.slice none 0 0) := HB4w1.out.cell 4 rfl; have s5 : w1.cell? ⟨g + 4, 5, none⟩ = some (.slice none 0 0) := HB4w1.out.cell 5 rfl
  have f0 : w1.frozen? ⟨g + 2, 0, none⟩ = false := HB2w1.out.frozen 0; have h0 : w1.frozen? ⟨g + 3, 0, none⟩ = false := HB3w1.out.frozen 0; have f1 : w1.frozen? ⟨g + 2, 1, none⟩ = false := HB2w1.out.frozen 1; have h1 : w1.frozen? ⟨g + 3, 1, none⟩ = false := HB3w1.out.frozen 1; have f2 : w1.frozen? ⟨g + 2, 2, none⟩ = false := HB2w1.out.frozen 2; have h2 : w1.frozen? ⟨g + 3, 2, none⟩ = false := HB3w1.out.frozen 2; have f3 : w1.frozen? ⟨g + 2, 3, none⟩ = false := HB2w1.out.frozen 3; have h3 : w1.frozen? ⟨g + 3, 3, none⟩ = false := HB3w1.out.frozen 3; have f4 : w1.frozen? ⟨g + 2, 4, none⟩ = false := HB2w1.out.frozen 4; have h4 : w1.frozen? ⟨g + 3, 4, none⟩ = false := HB3w1.out.frozen 4; have f5 : w1.frozen? ⟨g + 2, 5, none⟩ = false := HB2w1.out.frozen 5; have h5 : w1.frozen? ⟨g + 3, 5, none⟩ = false := HB3w1.out.frozen 5
  go_wp2_with fail
  clear x0 y0 u0 v0 s0 f0 h0 x1 y1 u1 v1 s1 f1 h1 x2 y2 u2 v2 s2 f2 h2 x3 y3 u3 v3 s3 f3 h3 x4 y4 u4 v4 s4 f4 h4 x5 y5 u5 v5 s5 f5 h5
  refine (refMayP D m k D' m' k' _ q w1 bq (Nat.le_refl _) GVw1.out HBQ.out).mono ?_
  rintro e w2 ⟨rfl, hb⟩
  have HVw2 := Lib.hid (HVw1.out.mv hb); have GVw2 := Lib.hid (GVw1.out.mv hb); clear HVw1 GVw1
  have HWw2 := Lib.hid (HWw1.out.trans (hb.mono HGw1.out)); have HGw2 := Lib.hid (Nat.le_trans HGw1.out hb.size)
  have HB0w2 := Lib.hid (HB0w1.out.below hb HB0w1.out.lt); have HB1w2 := Lib.hid (HB1w1.out.below hb HB1w1.out.lt); have HB2w2 := Lib.hid (HB2w1.out.below hb HB2w1.out.lt); have HB3w2 := Lib.hid (HB3w1.out.below hb HB3w1.out.lt); have HB4w2 := Lib.hid (HB4w1.out.below hb HB4w1.out.lt)
  clear hb HWw1 HGw1 HB0w1 HB1w1 HB2w1 HB3w1 HB4w1
  have x0 : w2.cell? ⟨g, 0, none⟩ = some (.int .i64 p.k) := HB0w2.out.cell 0 rfl; have x1 : w2.cell? ⟨g, 1, none⟩ = some (strV p.nm) := HB0w2.out.cell 1 rfl; have x2 : w2.cell? ⟨g, 2, none⟩ = some (strV p.to) := HB0w2.out.cell 2 rfl; have x3 : w2.cell? ⟨g, 3, none⟩ = some (.int .i64 p.h.pos) := HB0w2.out.cell 3 rfl; have x4 : w2.cell? ⟨g, 4, none⟩ = some (.slice A n c) := HB0w2.out.cell 4 rfl; have x5 : w2.cell? ⟨g, 5, none⟩ = some (.slice A' n' c') := HB0w2.out.cell 5 rfl
  have y0 : w2.cell? ⟨g + 1, 0, none⟩ = some (.int .i64 q.k) := HB1w2.out.cell 0 rfl; have y1 : w2.cell? ⟨g + 1, 1, none⟩ = some (strV q.nm) := HB1w2.out.cell 1 rfl; have y2 : w2.cell? ⟨g + 1, 2, none⟩ = some (strV q.to) := HB1w2.out.cell 2 rfl; have y3 : w2.cell? ⟨g + 1, 3, none⟩ = some (.int .i64 q.h.pos) := HB1w2.out.cell 3 rfl; have y4 : w2.cell? ⟨g + 1, 4, none⟩ = some (.slice D m k) := HB1w2.out.cell 4 rfl; have y5 : w2.cell? ⟨g + 1, 5, none⟩ = some (.slice D' m' k') := HB1w2.out.cell 5 rfl
  have u0 : w2.cell? ⟨g + 2, 0, none⟩ = some (.int .i64 0) := HB2w2.out.cell 0 rfl; have u1 : w2.cell? ⟨g + 2, 1, none⟩ = some (strV []) := HB2w2.out.cell 1 rfl; have u2 : w2.cell? ⟨g + 2, 2, none⟩ = some (strV []) := HB2w2.out.cell 2 rfl; have u3 : w2.cell? ⟨g + 2, 3, none⟩ = some (.int .i64 0) := HB2w2.out.cell 3 rfl; have u4 : w2.cell? ⟨g + 2, 4, none⟩ = some (.slice none 0 0) := HB2w2.out.cell 4 rfl; have u5 : w2.cell? ⟨g + 2, 5, none⟩ = some (.slice none 0 0) := HB2w2.out.cell 5 rfl
  have v0 : w2.cell? ⟨g + 3, 0, none⟩ = some (.int .i64 0) := HB3w2.out.cell 0 rfl; have v1 : w2.cell? ⟨g + 3, 1, none⟩ = some (strV []) := HB3w2.out.cell 1 rfl; have v2 : w2.cell? ⟨g + 3, 2, none⟩ = some (strV []) := HB3w2.out.cell 2 rfl; have v3 : w2.cell? ⟨g + 3, 3, none⟩ = some (.int .i64 0) := HB3w2.out.cell 3 rfl; have v4 : w2.cell? ⟨g + 3, 4, none⟩ = some (.slice none 0 0) := HB3w2.out.cell 4 rfl; have v5 : w2.cell? ⟨g + 3, 5, none⟩ = some (.slice none 0 0) := HB3w2.out.cell 5 rfl
  have s0 : w2.cell? ⟨g + 4, 0, none⟩ = some (.int .i64 0) := HB4w2.out.cell 0 rfl; have s1 : w2.cell? ⟨g + 4, 1, none⟩ = some (strV []) := HB4w2.out.cell 1 rfl; have s2 : w2.cell? ⟨g + 4, 2, none⟩ = some (strV []) := HB4w2.out.cell 2 rfl; have s3 : w2.cell? ⟨g + 4, 3, none⟩ = some (.int .i64 0) := HB4w2.out.cell 3 rfl; have s4 : w2.cell? ⟨g + 4, 4, none⟩ = some (.slice none 0 0) := HB4w2.out.cell 4 rfl; have s5 : w2.cell? ⟨g + 4, 5, none⟩ = some (.slice none 0 0) := HB4w2.out.cell 5 rfl
  have f0 : w2.frozen? ⟨g + 2, 0, none⟩ = false := HB2w2.out.frozen 0; have h0 : w2.frozen? ⟨g + 3, 0, none⟩ = false := HB3w2.out.frozen 0; have f1 : w2.frozen? ⟨g + 2, 1, none⟩ = false := HB2w2.out.frozen 1; have h1 : w2.frozen? ⟨g + 3, 1, none⟩ = false := HB3w2.out.frozen 1; have f2 : w2.frozen? ⟨g + 2, 2, none⟩ = false := HB2w2.out.frozen 2; have h2 : w2.frozen? ⟨g + 3, 2, none⟩ = false := HB3w2.out.frozen 2; have f3 : w2.frozen? ⟨g + 2, 3, none⟩ = false := HB2w2.out.frozen 3; have h3 : w2.frozen? ⟨g + 3, 3, none⟩ = false := HB3w2.out.frozen 3; have f4 : w2.frozen? ⟨g + 2, 4, none⟩ = false := HB2w2.out.frozen 4; have h4 : w2.frozen? ⟨g + 3, 4, none⟩ = false := HB3w2.out.frozen 4; have f5 : w2.frozen? ⟨g + 2, 5, none⟩ = false := HB2w2.out.frozen 5; have h5 : w2.frozen? ⟨g + 3, 5, none⟩ = false := HB3w2.out.frozen 5
  cases bp with
  | false =>
    go_wp2_with fail
    go_region
    go_wp2_with fail
    obtain ⟨z2, z3⟩ := two_set6 HB2w2.out HB3w2.out (by omega) (.int .i64 0) (strV []) (strV []) (.int .i64 0) (.slice none 0 0) (.slice none 0 0) (.int .i64 0) (strV []) (strV []) (.int .i64 0) (.slice none 0 0) (.slice none 0 0)
    have hb6 := below_drewN (below_set12 (b := g + 2) (b' := g + 3) HWw2.out (by omega) (by omega) (.int .i64 0) (strV []) (strV []) (.int .i64 0) (.slice none 0 0) (.slice none 0 0) (.int .i64 0) (strV []) (strV []) (.int .i64 0) (.slice none 0 0) (.slice none 0 0)) 1
    have z2 := z2.drewN 1; have z3 := z3.drewN 1
    have hdr : ∀ W : World, W.drewN 1 = W.drew := fun _ => rfl
    rw [hdr] at hb6 z2 z3
    generalize World.drew (World.setCell (World.setCell (World.setCell (World.setCell (World.setCell (World.setCell (World.setCell (World.setCell (World.setCell (World.setCell (World.setCell (World.setCell w2 ⟨g + 2, 0, none⟩ (.int .i64 0)) ⟨g + 2, 1, none⟩ (strV [])) ⟨g + 2, 2, none⟩ (strV [])) ⟨g + 2, 3, none⟩ (.int .i64 0)) ⟨g + 2, 4, none⟩ (.slice none 0 0)) ⟨g + 2, 5, none⟩ (.slice none 0 0)) ⟨g + 3, 0, none⟩ (.int .i64 0)) ⟨g + 3, 1, none⟩ (strV [])) ⟨g + 3, 2, none⟩ (strV [])) ⟨g + 3, 3, none⟩ (.int .i64 0)) ⟨g + 3, 4, none⟩ (.slice none 0 0)) ⟨g + 3, 5, none⟩ (.slice none 0 0)) = W3 at *
    clear u0 v0 s0 u1 v1 s1 u2 v2 s2 u3 v3 s3 u4 v4 s4 u5 v5 s5 f0 h0 f1 h1 f2 h2 f3 h3 f4 h4 f5 h5
    have u0 : W3.cell? ⟨g + 2, 0, none⟩ = some (.int .i64 0) := z2.cell 0 rfl; have u1 : W3.cell? ⟨g + 2, 1, none⟩ = some (strV []) := z2.cell 1 rfl; have u2 : W3.cell? ⟨g + 2, 2, none⟩ = some (strV []) := z2.cell 2 rfl; have u3 : W3.cell? ⟨g + 2, 3, none⟩ = some (.int .i64 0) := z2.cell 3 rfl; have u4 : W3.cell? ⟨g + 2, 4, none⟩ = some (.slice none 0 0) := z2.cell 4 rfl; have u5 : W3.cell? ⟨g + 2, 5, none⟩ = some (.slice none 0 0) := z2.cell 5 rfl
    have v0 : W3.cell? ⟨g + 3, 0, none⟩ = some (.int .i64 0) := z3.cell 0 rfl; have v1 : W3.cell? ⟨g + 3, 1, none⟩ = some (strV []) := z3.cell 1 rfl; have v2 : W3.cell? ⟨g + 3, 2, none⟩ = some (strV []) := z3.cell 2 rfl; have v3 : W3.cell? ⟨g + 3, 3, none⟩ = some (.int .i64 0) := z3.cell 3 rfl; have v4 : W3.cell? ⟨g + 3, 4, none⟩ = some (.slice none 0 0) := z3.cell 4 rfl; have v5 : W3.cell? ⟨g + 3, 5, none⟩ = some (.slice none 0 0) := z3.cell 5 rfl
    refine bodyPost_ret (v := .tuple #[.agg #[.int .i64 0, strV [], strV [], .int .i64 0, .slice none 0 0, .slice none 0 0], .agg #[.int .i64 0, strV [], strV [], .int .i64 0, .slice none 0 0, .slice none 0 0], .bool false]) (by simp [results, Try.results56, go_sem, u0, v0, u1, v1, u2, v2, u3, v3, u4, v4, u5, v5]) rfl ?_
    have hW : Below w.heap.size w W3 := by rw [HGS.out]; exact hb6
    exact ppEndE_none (passP_no1 HBP.out) hW
  | true =>
  cases bq with
  | false =>
    go_wp2_with fail
    go_region
    go_wp2_with fail
    obtain ⟨z2, z3⟩ := two_set6 HB2w2.out HB3w2.out (by omega) (.int .i64 0) (strV []) (strV []) (.int .i64 0) (.slice none 0 0) (.slice none 0 0) (.int .i64 0) (strV []) (strV []) (.int .i64 0) (.slice none 0 0) (.slice none 0 0)
    have hb6 := below_drewN (below_set12 (b := g + 2) (b' := g + 3) HWw2.out (by omega) (by omega) (.int .i64 0) (strV []) (strV []) (.int .i64 0) (.slice none 0 0) (.slice none 0 0) (.int .i64 0) (strV []) (strV []) (.int .i64 0) (.slice none 0 0) (.slice none 0 0)) 1
    have z2 := z2.drewN 1; have z3 := z3.drewN 1
    have hdr : ∀ W : World, W.drewN 1 = W.drew := fun _ => rfl
    rw [hdr] at hb6 z2 z3
    generalize World.drew (World.setCell (World.setCell (World.setCell (World.setCell (World.setCell (World.setCell (World.setCell (World.setCell (World.setCell (World.setCell (World.setCell (World.setCell w2 ⟨g + 2, 0, none⟩ (.int .i64 0)) ⟨g + 2, 1, none⟩ (strV [])) ⟨g + 2, 2, none⟩ (strV [])) ⟨g + 2, 3, none⟩ (.int .i64 0)) ⟨g + 2, 4, none⟩ (.slice none 0 0)) ⟨g + 2, 5, none⟩ (.slice none 0 0)) ⟨g + 3, 0, none⟩ (.int .i64 0)) ⟨g + 3, 1, none⟩ (strV [])) ⟨g + 3, 2, none⟩ (strV [])) ⟨g + 3, 3, none⟩ (.int .i64 0)) ⟨g + 3, 4, none⟩ (.slice none 0 0)) ⟨g + 3, 5, none⟩ (.slice none 0 0)) = W3 at *
    clear u0 v0 s0 u1 v1 s1 u2 v2 s2 u3 v3 s3 u4 v4 s4 u5 v5 s5 f0 h0 f1 h1 f2 h2 f3 h3 f4 h4 f5 h5
    have u0 : W3.cell? ⟨g + 2, 0, none⟩ = some (.int .i64 0) := z2.cell 0 rfl; have u1 : W3.cell? ⟨g + 2, 1, none⟩ = some (strV []) := z2.cell 1 rfl; have u2 : W3.cell? ⟨g + 2, 2, none⟩ = some (strV []) := z2.cell 2 rfl; have u3 : W3.cell? ⟨g + 2, 3, none⟩ = some (.int .i64 0) := z2.cell 3 rfl; have u4 : W3.cell? ⟨g + 2, 4, none⟩ = some (.slice none 0 0) := z2.cell 4 rfl; have u5 : W3.cell? ⟨g + 2, 5, none⟩ = some (.slice none 0 0) := z2.cell 5 rfl
    have v0 : W3.cell? ⟨g + 3, 0, none⟩ = some (.int .i64 0) := z3.cell 0 rfl; have v1 : W3.cell? ⟨g + 3, 1, none⟩ = some (strV []) := z3.cell 1 rfl; have v2 : W3.cell? ⟨g + 3, 2, none⟩ = some (strV []) := z3.cell 2 rfl; have v3 : W3.cell? ⟨g + 3, 3, none⟩ = some (.int .i64 0) := z3.cell 3 rfl; have v4 : W3.cell? ⟨g + 3, 4, none⟩ = some (.slice none 0 0) := z3.cell 4 rfl; have v5 : W3.cell? ⟨g + 3, 5, none⟩ = some (.slice none 0 0) := z3.cell 5 rfl
    refine bodyPost_ret (v := .tuple #[.agg #[.int .i64 0, strV [], strV [], .int .i64 0, .slice none 0 0, .slice none 0 0], .agg #[.int .i64 0, strV [], strV [], .int .i64 0, .slice none 0 0, .slice none 0 0], .bool false]) (by simp [results, Try.results56, go_sem, u0, v0, u1, v1, u2, v2, u3, v3, u4, v4, u5, v5]) rfl ?_
    have hW : Below w.heap.size w W3 := by rw [HGS.out]; exact hb6
    exact ppEndE_none (passP_no2 HBQ.out) hW
  | true =>
  go_wp2_with fail
  clear x0 y0 u0 v0 s0 f0 h0 x1 y1 u1 v1 s1 f1 h1 x2 y2 u2 v2 s2 f2 h2 x3 y3 u3 v3 s3 f3 h3 x4 y4 u4 v4 s4 f4 h4 x5 y5 u5 v5 s5 f5 h5
  refine (refApart A n c A' n' c' D m k D' m' k' p q w2 ba HBA.out).mono ?_
  rintro e w3 ⟨rfl, hb⟩
  have HVw3 := Lib.hid (HVw2.out.mv hb); have GVw3 := Lib.hid (GVw2.out.mv hb); clear HVw2 GVw2
  have HWw3 := Lib.hid (HWw2.out.trans (hb.mono HGw2.out)); have HGw3 := Lib.hid (Nat.le_trans HGw2.out hb.size)
  have HB0w3 := Lib.hid (HB0w2.out.below hb HB0w2.out.lt); have HB1w3 := Lib.hid (HB1w2.out.below hb HB1w2.out.lt); have HB2w3 := Lib.hid (HB2w2.out.below hb HB2w2.out.lt); have HB3w3 := Lib.hid (HB3w2.out.below hb HB3w2.out.lt); have HB4w3 := Lib.hid (HB4w2.out.below hb HB4w2.out.lt)
  clear hb HWw2 HGw2 HB0w2 HB1w2 HB2w2 HB3w2 HB4w2
  have x0 : w3.cell? ⟨g, 0, none⟩ = some (.int .i64 p.k) := HB0w3.out.cell 0 rfl; have x1 : w3.cell? ⟨g, 1, none⟩ = some (strV p.nm) := HB0w3.out.cell 1 rfl; have x2 : w3.cell? ⟨g, 2, none⟩ = some (strV p.to) := HB0w3.out.cell 2 rfl; have x3 : w3.cell? ⟨g, 3, none⟩ = some (.int .i64 p.h.pos) := HB0w3.out.cell 3 rfl; have x4 : w3.cell? ⟨g, 4, none⟩ = some (.slice A n c) := HB0w3.out.cell 4 rfl; have x5 : w3.cell? ⟨g, 5, none⟩ = some (.slice A' n' c') := HB0w3.out.cell 5 rfl
  have y0 : w3.cell? ⟨g + 1, 0, none⟩ = some (.int .i64 q.k) := HB1w3.out.cell 0 rfl; have y1 : w3.cell? ⟨g + 1, 1, none⟩ = some (strV q.nm) := HB1w3.out.cell 1 rfl; have y2 : w3.cell? ⟨g + 1, 2, none⟩ = some (strV q.to) := HB1w3.out.cell 2 rfl; have y3 : w3.cell? ⟨g + 1, 3, none⟩ = some (.int .i64 q.h.pos) := HB1w3.out.cell 3 rfl; have y4 : w3.cell? ⟨g + 1, 4, none⟩ = some (.slice D m k) := HB1w3.out.cell 4 rfl; have y5 : w3.cell? ⟨g + 1, 5, none⟩ = some (.slice D' m' k') := HB1w3.out.cell 5 rfl
  have u0 : w3.cell? ⟨g + 2, 0, none⟩ = some (.int .i64 0) := HB2w3.out.cell 0 rfl; have u1 : w3.cell? ⟨g + 2, 1, none⟩ = some (strV []) := HB2w3.out.cell 1 rfl; have u2 : w3.cell? ⟨g + 2, 2, none⟩ = some (strV []) := HB2w3.out.cell 2 rfl; have u3 : w3.cell? ⟨g + 2, 3, none⟩ = some (.int .i64 0) := HB2w3.out.cell 3 rfl; have u4 : w3.cell? ⟨g + 2, 4, none⟩ = some (.slice none 0 0) := HB2w3.out.cell 4 rfl; have u5 : w3.cell? ⟨g + 2, 5, none⟩ = some (.slice none 0 0) := HB2w3.out.cell 5 rfl
  have v0 : w3.cell? ⟨g + 3, 0, none⟩ = some (.int .i64 0) := HB3w3.out.cell 0 rfl; have v1 : w3.cell? ⟨g + 3, 1, none⟩ = some (strV []) := HB3w3.out.cell 1 rfl; have v2 : w3.cell? ⟨g + 3, 2, none⟩ = some (strV []) := HB3w3.out.cell 2 rfl; have v3 : w3.cell? ⟨g + 3, 3, none⟩ = some (.int .i64 0) := HB3w3.out.cell 3 rfl; have v4 : w3.cell? ⟨g + 3, 4, none⟩ = some (.slice none 0 0) := HB3w3.out.cell 4 rfl; have v5 : w3.cell? ⟨g + 3, 5, none⟩ = some (.slice none 0 0) := HB3w3.out.cell 5 rfl
  have s0 : w3.cell? ⟨g + 4, 0, none⟩ = some (.int .i64 0) := HB4w3.out.cell 0 rfl; have s1 : w3.cell? ⟨g + 4, 1, none⟩ = some (strV []) := HB4w3.out.cell 1 rfl; have s2 : w3.cell? ⟨g + 4, 2, none⟩ = some (strV []) := HB4w3.out.cell 2 rfl; have s3 : w3.cell? ⟨g + 4, 3, none⟩ = some (.int .i64 0) := HB4w3.out.cell 3 rfl; have s4 : w3.cell? ⟨g + 4, 4, none⟩ = some (.slice none 0 0) := HB4w3.out.cell 4 rfl; have s5 : w3.cell? ⟨g + 4, 5, none⟩ = some (.slice none 0 0) := HB4w3.out.cell 5 rfl
  have f0 : w3.frozen? ⟨g + 2, 0, none⟩ = false := HB2w3.out.frozen 0; have h0 : w3.frozen? ⟨g + 3, 0, none⟩ = false := HB3w3.out.frozen 0; have f1 : w3.frozen? ⟨g + 2, 1, none⟩ = false := HB2w3.out.frozen 1; have h1 : w3.frozen? ⟨g + 3, 1, none⟩ = false := HB3w3.out.frozen 1; have f2 : w3.frozen? ⟨g + 2, 2, none⟩ = false := HB2w3.out.frozen 2; have h2 : w3.frozen? ⟨g + 3, 2, none⟩ = false := HB3w3.out.frozen 2; have f3 : w3.frozen? ⟨g + 2, 3, none⟩ = false := HB2w3.out.frozen 3; have h3 : w3.frozen? ⟨g + 3, 3, none⟩ = false := HB3w3.out.frozen 3; have f4 : w3.frozen? ⟨g + 2, 4, none⟩ = false := HB2w3.out.frozen 4; have h4 : w3.frozen? ⟨g + 3, 4, none⟩ = false := HB3w3.out.frozen 4; have f5 : w3.frozen? ⟨g + 2, 5, none⟩ = false := HB2w3.out.frozen 5; have h5 : w3.frozen? ⟨g + 3, 5, none⟩ = false := HB3w3.out.frozen 5
  cases ba with
  | true =>
    go_wp2_with fail
    go_region
    go_wp2_with fail
    obtain ⟨z2, z3⟩ := two_set6 HB2w3.out HB3w3.out (by omega) (.int .i64 q.k) (strV q.nm) (strV q.to) (.int .i64 q.h.pos) (.slice D m k) (.slice D' m' k') (.int .i64 p.k) (strV p.nm) (strV p.to) (.int .i64 p.h.pos) (.slice A n c) (.slice A' n' c')
    have hb6 := below_drewN (below_set12 (b := g + 2) (b' := g + 3) HWw3.out (by omega) (by omega) (.int .i64 q.k) (strV q.nm) (strV q.to) (.int .i64 q.h.pos) (.slice D m k) (.slice D' m' k') (.int .i64 p.k) (strV p.nm) (strV p.to) (.int .i64 p.h.pos) (.slice A n c) (.slice A' n' c')) 1
    have z2 := z2.drewN 1; have z3 := z3.drewN 1
    have hdr : ∀ W : World, W.drewN 1 = W.drew := fun _ => rfl
    rw [hdr] at hb6 z2 z3
    generalize World.drew (World.setCell (World.setCell (World.setCell (World.setCell (World.setCell (World.setCell (World.setCell (World.setCell (World.setCell (World.setCell (World.setCell (World.setCell w3 ⟨g + 2, 0, none⟩ (.int .i64 q.k)) ⟨g + 2, 1, none⟩ (strV q.nm)) ⟨g + 2, 2, none⟩ (strV q.to)) ⟨g + 2, 3, none⟩ (.int .i64 q.h.pos)) ⟨g + 2, 4, none⟩ (.slice D m k)) ⟨g + 2, 5, none⟩ (.slice D' m' k')) ⟨g + 3, 0, none⟩ (.int .i64 p.k)) ⟨g + 3, 1, none⟩ (strV p.nm)) ⟨g + 3, 2, none⟩ (strV p.to)) ⟨g + 3, 3, none⟩ (.int .i64 p.h.pos)) ⟨g + 3, 4, none⟩ (.slice A n c)) ⟨g + 3, 5, none⟩ (.slice A' n' c')) = W3 at *
    clear u0 v0 s0 u1 v1 s1 u2 v2 s2 u3 v3 s3 u4 v4 s4 u5 v5 s5 f0 h0 f1 h1 f2 h2 f3 h3 f4 h4 f5 h5
    have u0 : W3.cell? ⟨g + 2, 0, none⟩ = some (.int .i64 q.k) := z2.cell 0 rfl; have u1 : W3.cell? ⟨g + 2, 1, none⟩ = some (strV q.nm) := z2.cell 1 rfl; have u2 : W3.cell? ⟨g + 2, 2, none⟩ = some (strV q.to) := z2.cell 2 rfl; have u3 : W3.cell? ⟨g + 2, 3, none⟩ = some (.int .i64 q.h.pos) := z2.cell 3 rfl; have u4 : W3.cell? ⟨g + 2, 4, none⟩ = some (.slice D m k) := z2.cell 4 rfl; have u5 : W3.cell? ⟨g + 2, 5, none⟩ = some (.slice D' m' k') := z2.cell 5 rfl
    have v0 : W3.cell? ⟨g + 3, 0, none⟩ = some (.int .i64 p.k) := z3.cell 0 rfl; have v1 : W3.cell? ⟨g + 3, 1, none⟩ = some (strV p.nm) := z3.cell 1 rfl; have v2 : W3.cell? ⟨g + 3, 2, none⟩ = some (strV p.to) := z3.cell 2 rfl; have v3 : W3.cell? ⟨g + 3, 3, none⟩ = some (.int .i64 p.h.pos) := z3.cell 3 rfl; have v4 : W3.cell? ⟨g + 3, 4, none⟩ = some (.slice A n c) := z3.cell 4 rfl; have v5 : W3.cell? ⟨g + 3, 5, none⟩ = some (.slice A' n' c') := z3.cell 5 rfl
    refine bodyPost_ret (v := .tuple #[.agg #[.int .i64 q.k, strV q.nm, strV q.to, .int .i64 q.h.pos, .slice D m k, .slice D' m' k'], .agg #[.int .i64 p.k, strV p.nm, strV p.to, .int .i64 p.h.pos, .slice A n c, .slice A' n' c'], .bool true]) (by simp [results, Try.results56, go_sem, u0, v0, u1, v1, u2, v2, u3, v3, u4, v4, u5, v5]) rfl ?_
    have hW : Below w.heap.size w W3 := by rw [HGS.out]; exact hb6
    rw [(passP_ap HBP.out HBQ.out HBA.out)]; exact ppEndE_some hW
  | false =>
  by_cases h3 : p.k = 3 ∧ q.k = 3
  · have e1 : (p.k == 3) = true := by simpa using h3.1
    have e2 : (q.k == 3) = true := by simpa using h3.2
    have H3 := Lib.hid h3; clear h3
    go_wp2_with fail
    clear x0 y0 u0 v0 s0 f0 h0 x1 y1 u1 v1 s1 f1 h1 x2 y2 u2 v2 s2 f2 h2 x3 y3 u3 v3 s3 f3 h3 x4 y4 u4 v4 s4 f4 h4 x5 y5 u5 v5 s5 f5 h5
    refine (Sw.refPassE A n c A' n' c' D m k D' m' k' w3.heap.size p.h q.h w3 (Nat.le_refl _) HL.out.1 HL.out.2 GL.out.1 GL.out.2 HVw3.out.h GVw3.out.h HV0.out.s HV0.out.s' GV0.out.s GV0.out.s').mono ?_
    rintro e w4 ⟨hes, hen, hb⟩
    have HWw4 := Lib.hid (HWw3.out.trans (hb.mono HGw3.out)); have HGw4 := Lib.hid (Nat.le_trans HGw3.out hb.size)
    have HB0w4 := Lib.hid (HB0w3.out.below hb HB0w3.out.lt); have HB1w4 := Lib.hid (HB1w3.out.below hb HB1w3.out.lt); have HB2w4 := Lib.hid (HB2w3.out.below hb HB2w3.out.lt); have HB3w4 := Lib.hid (HB3w3.out.below hb HB3w3.out.lt); have HB4w4 := Lib.hid (HB4w3.out.below hb HB4w3.out.lt)
    clear hb HWw3 HGw3 HVw3 GVw3 HB0w3 HB1w3 HB2w3 HB3w3 HB4w3
    cases hz : Sw.passH p.h q.h with
    | none =>
      have HN : Hid (passP p q = none) := Lib.hid (by rw [passP_b HBP.out HBQ.out HBA.out H3.out.1 H3.out.2, hz]; rfl)
      have he := hen hz
      subst he
      clear hz
      clear hes hen
      have hb : Below w4.heap.size w4 ((w4.alloc (.cells #[.int .i64 0, .slice none 0 0, .slice none 0 0] 49)).alloc (.cells #[.int .i64 0, .slice none 0 0, .slice none 0 0] 49)) := two_box _ _ _
      have HBX := Lib.hid ((Blk.new w4 49 #[.int .i64 0, .slice none 0 0, .slice none 0 0]).alloc (.cells #[.int .i64 0, .slice none 0 0, .slice none 0 0] 49))
      have hby := Blk.new (w4.alloc (.cells #[.int .i64 0, .slice none 0 0, .slice none 0 0] 49)) 49 #[.int .i64 0, .slice none 0 0, .slice none 0 0]
      simp only [World.size_alloc] at hby
      have HBY := Lib.hid hby
      clear hby
      have HWw5 := Lib.hid (HWw4.out.trans (hb.mono HGw4.out)); have HGw5 := Lib.hid (Nat.le_trans HGw4.out hb.size)
      have HB0w5 := Lib.hid (HB0w4.out.below hb HB0w4.out.lt); have HB1w5 := Lib.hid (HB1w4.out.below hb HB1w4.out.lt); have HB2w5 := Lib.hid (HB2w4.out.below hb HB2w4.out.lt); have HB3w5 := Lib.hid (HB3w4.out.below hb HB3w4.out.lt); have HB4w5 := Lib.hid (HB4w4.out.below hb HB4w4.out.lt)
      have HG4 := Lib.hid (show g + 4 < w4.heap.size from HB4w4.out.lt)
      clear hb HWw4 HGw4 HB0w4 HB1w4 HB2w4 HB3w4 HB4w4
      go_upto_region 11 with fail
      generalize ((w4.alloc (.cells #[.int .i64 0, .slice none 0 0, .slice none 0 0] 49)).alloc (.cells #[.int .i64 0, .slice none 0 0, .slice none 0 0] 49)) = w5 at *
      generalize w4.heap.size = g5 at *
      have x0 : w5.cell? ⟨g, 0, none⟩ = some (.int .i64 p.k) := HB0w5.out.cell 0 rfl; have x1 : w5.cell? ⟨g, 1, none⟩ = some (strV p.nm) := HB0w5.out.cell 1 rfl; have x2 : w5.cell? ⟨g, 2, none⟩ = some (strV p.to) := HB0w5.out.cell 2 rfl; have x3 : w5.cell? ⟨g, 3, none⟩ = some (.int .i64 p.h.pos) := HB0w5.out.cell 3 rfl; have x4 : w5.cell? ⟨g, 4, none⟩ = some (.slice A n c) := HB0w5.out.cell 4 rfl; have x5 : w5.cell? ⟨g, 5, none⟩ = some (.slice A' n' c') := HB0w5.out.cell 5 rfl
      have y0 : w5.cell? ⟨g + 1, 0, none⟩ = some (.int .i64 q.k) := HB1w5.out.cell 0 rfl; have y1 : w5.cell? ⟨g + 1, 1, none⟩ = some (strV q.nm) := HB1w5.out.cell 1 rfl; have y2 : w5.cell? ⟨g + 1, 2, none⟩ = some (strV q.to) := HB1w5.out.cell 2 rfl; have y3 : w5.cell? ⟨g + 1, 3, none⟩ = some (.int .i64 q.h.pos) := HB1w5.out.cell 3 rfl; have y4 : w5.cell? ⟨g + 1, 4, none⟩ = some (.slice D m k) := HB1w5.out.cell 4 rfl; have y5 : w5.cell? ⟨g + 1, 5, none⟩ = some (.slice D' m' k') := HB1w5.out.cell 5 rfl
      have u0 : w5.cell? ⟨g + 2, 0, none⟩ = some (.int .i64 0) := HB2w5.out.cell 0 rfl; have u1 : w5.cell? ⟨g + 2, 1, none⟩ = some (strV []) := HB2w5.out.cell 1 rfl; have u2 : w5.cell? ⟨g + 2, 2, none⟩ = some (strV []) := HB2w5.out.cell 2 rfl; have u3 : w5.cell? ⟨g + 2, 3, none⟩ = some (.int .i64 0) := HB2w5.out.cell 3 rfl; have u4 : w5.cell? ⟨g + 2, 4, none⟩ = some (.slice none 0 0) := HB2w5.out.cell 4 rfl; have u5 : w5.cell? ⟨g + 2, 5, none⟩ = some (.slice none 0 0) := HB2w5.out.cell 5 rfl
      have v0 : w5.cell? ⟨g + 3, 0, none⟩ = some (.int .i64 0) := HB3w5.out.cell 0 rfl; have v1 : w5.cell? ⟨g + 3, 1, none⟩ = some (strV []) := HB3w5.out.cell 1 rfl; have v2 : w5.cell? ⟨g + 3, 2, none⟩ = some (strV []) := HB3w5.out.cell 2 rfl; have v3 : w5.cell? ⟨g + 3, 3, none⟩ = some (.int .i64 0) := HB3w5.out.cell 3 rfl; have v4 : w5.cell? ⟨g + 3, 4, none⟩ = some (.slice none 0 0) := HB3w5.out.cell 4 rfl; have v5 : w5.cell? ⟨g + 3, 5, none⟩ = some (.slice none 0 0) := HB3w5.out.cell 5 rfl
      have s0 : w5.cell? ⟨g + 4, 0, none⟩ = some (.int .i64 0) := HB4w5.out.cell 0 rfl; have s1 : w5.cell? ⟨g + 4, 1, none⟩ = some (strV []) := HB4w5.out.cell 1 rfl; have s2 : w5.cell? ⟨g + 4, 2, none⟩ = some (strV []) := HB4w5.out.cell 2 rfl; have s3 : w5.cell? ⟨g + 4, 3, none⟩ = some (.int .i64 0) := HB4w5.out.cell 3 rfl; have s4 : w5.cell? ⟨g + 4, 4, none⟩ = some (.slice none 0 0) := HB4w5.out.cell 4 rfl; have s5 : w5.cell? ⟨g + 4, 5, none⟩ = some (.slice none 0 0) := HB4w5.out.cell 5 rfl
      have f0 : w5.frozen? ⟨g + 2, 0, none⟩ = false := HB2w5.out.frozen 0; have h0 : w5.frozen? ⟨g + 3, 0, none⟩ = false := HB3w5.out.frozen 0; have f1 : w5.frozen? ⟨g + 2, 1, none⟩ = false := HB2w5.out.frozen 1; have h1 : w5.frozen? ⟨g + 3, 1, none⟩ = false := HB3w5.out.frozen 1; have f2 : w5.frozen? ⟨g + 2, 2, none⟩ = false := HB2w5.out.frozen 2; have h2 : w5.frozen? ⟨g + 3, 2, none⟩ = false := HB3w5.out.frozen 2; have f3 : w5.frozen? ⟨g + 2, 3, none⟩ = false := HB2w5.out.frozen 3; have h3 : w5.frozen? ⟨g + 3, 3, none⟩ = false := HB3w5.out.frozen 3; have f4 : w5.frozen? ⟨g + 2, 4, none⟩ = false := HB2w5.out.frozen 4; have h4 : w5.frozen? ⟨g + 3, 4, none⟩ = false := HB3w5.out.frozen 4; have f5 : w5.frozen? ⟨g + 2, 5, none⟩ = false := HB2w5.out.frozen 5; have h5 : w5.frozen? ⟨g + 3, 5, none⟩ = false := HB3w5.out.frozen 5
      have ne5 := HG4.out
      have a0 : w5.cell? ⟨g5, 0, none⟩ = some (.int .i64 0) := HBX.out.cell 0 rfl; have a1 : w5.cell? ⟨g5, 1, none⟩ = some (.slice none 0 0) := HBX.out.cell 1 rfl; have a2 : w5.cell? ⟨g5, 2, none⟩ = some (.slice none 0 0) := HBX.out.cell 2 rfl
      have b0 : w5.cell? ⟨g5 + 1, 0, none⟩ = some (.int .i64 0) := HBY.out.cell 0 rfl; have b1 : w5.cell? ⟨g5 + 1, 1, none⟩ = some (.slice none 0 0) := HBY.out.cell 1 rfl; have b2 : w5.cell? ⟨g5 + 1, 2, none⟩ = some (.slice none 0 0) := HBY.out.cell 2 rfl
      go_wp2_with fail
      go_region
      go_wp2_with fail
      obtain ⟨z2, z3⟩ := two_set6 HB2w5.out HB3w5.out (by omega) (.int .i64 0) (strV []) (strV []) (.int .i64 0) (.slice none 0 0) (.slice none 0 0) (.int .i64 0) (strV []) (strV []) (.int .i64 0) (.slice none 0 0) (.slice none 0 0)
      have hb6 := below_drewN (below_set12 (b := g + 2) (b' := g + 3) HWw5.out (by omega) (by omega) (.int .i64 0) (strV []) (strV []) (.int .i64 0) (.slice none 0 0) (.slice none 0 0) (.int .i64 0) (strV []) (strV []) (.int .i64 0) (.slice none 0 0) (.slice none 0 0)) 1
      have z2 := z2.drewN 1; have z3 := z3.drewN 1
      have hdr : ∀ W : World, W.drewN 1 = W.drew := fun _ => rfl
      rw [hdr] at hb6 z2 z3
      generalize World.drew (World.setCell (World.setCell (World.setCell (World.setCell (World.setCell (World.setCell (World.setCell (World.setCell (World.setCell (World.setCell (World.setCell (World.setCell w5 ⟨g + 2, 0, none⟩ (.int .i64 0)) ⟨g + 2, 1, none⟩ (strV [])) ⟨g + 2, 2, none⟩ (strV [])) ⟨g + 2, 3, none⟩ (.int .i64 0)) ⟨g + 2, 4, none⟩ (.slice none 0 0)) ⟨g + 2, 5, none⟩ (.slice none 0 0)) ⟨g + 3, 0, none⟩ (.int .i64 0)) ⟨g + 3, 1, none⟩ (strV [])) ⟨g + 3, 2, none⟩ (strV [])) ⟨g + 3, 3, none⟩ (.int .i64 0)) ⟨g + 3, 4, none⟩ (.slice none 0 0)) ⟨g + 3, 5, none⟩ (.slice none 0 0)) = W3 at *
      clear u0 v0 s0 u1 v1 s1 u2 v2 s2 u3 v3 s3 u4 v4 s4 u5 v5 s5 f0 h0 f1 h1 f2 h2 f3 h3 f4 h4 f5 h5
      have u0 : W3.cell? ⟨g + 2, 0, none⟩ = some (.int .i64 0) := z2.cell 0 rfl; have u1 : W3.cell? ⟨g + 2, 1, none⟩ = some (strV []) := z2.cell 1 rfl; have u2 : W3.cell? ⟨g + 2, 2, none⟩ = some (strV []) := z2.cell 2 rfl; have u3 : W3.cell? ⟨g + 2, 3, none⟩ = some (.int .i64 0) := z2.cell 3 rfl; have u4 : W3.cell? ⟨g + 2, 4, none⟩ = some (.slice none 0 0) := z2.cell 4 rfl; have u5 : W3.cell? ⟨g + 2, 5, none⟩ = some (.slice none 0 0) := z2.cell 5 rfl
      have v0 : W3.cell? ⟨g + 3, 0, none⟩ = some (.int .i64 0) := z3.cell 0 rfl; have v1 : W3.cell? ⟨g + 3, 1, none⟩ = some (strV []) := z3.cell 1 rfl; have v2 : W3.cell? ⟨g + 3, 2, none⟩ = some (strV []) := z3.cell 2 rfl; have v3 : W3.cell? ⟨g + 3, 3, none⟩ = some (.int .i64 0) := z3.cell 3 rfl; have v4 : W3.cell? ⟨g + 3, 4, none⟩ = some (.slice none 0 0) := z3.cell 4 rfl; have v5 : W3.cell? ⟨g + 3, 5, none⟩ = some (.slice none 0 0) := z3.cell 5 rfl
      refine bodyPost_ret (v := .tuple #[.agg #[.int .i64 0, strV [], strV [], .int .i64 0, .slice none 0 0, .slice none 0 0], .agg #[.int .i64 0, strV [], strV [], .int .i64 0, .slice none 0 0, .slice none 0 0], .bool false]) (by simp [results, Try.results56, go_sem, u0, v0, u1, v1, u2, v2, u3, v3, u4, v4, u5, v5]) rfl ?_
      have hW : Below w.heap.size w W3 := by rw [HGS.out]; exact hb6
      exact ppEndE_none HN.out hW
    | some z =>
    obtain ⟨hx, hy⟩ := z
    have HS : Hid (passP p q = some (⟨q.k, q.nm, q.to, hx⟩, ⟨p.k, p.nm, p.to, hy⟩)) := Lib.hid (by rw [passP_b HBP.out HBQ.out HBA.out H3.out.1 H3.out.2, hz]; rfl)
    have he := hes _ hz
    subst he
    clear hz
    clear hes hen
    have hb : Below w4.heap.size w4 ((w4.alloc (.cells #[.int .i64 hx.pos, .slice D m k, .slice D' m' k'] 49)).alloc (.cells #[.int .i64 hy.pos, .slice A n c, .slice A' n' c'] 49)) := two_box _ _ _
    have HBX := Lib.hid ((Blk.new w4 49 #[.int .i64 hx.pos, .slice D m k, .slice D' m' k']).alloc (.cells #[.int .i64 hy.pos, .slice A n c, .slice A' n' c'] 49))
    have hby := Blk.new (w4.alloc (.cells #[.int .i64 hx.pos, .slice D m k, .slice D' m' k'] 49)) 49 #[.int .i64 hy.pos, .slice A n c, .slice A' n' c']
    simp only [World.size_alloc] at hby
    have HBY := Lib.hid hby
    clear hby
    have HWw5 := Lib.hid (HWw4.out.trans (hb.mono HGw4.out)); have HGw5 := Lib.hid (Nat.le_trans HGw4.out hb.size)
    have HB0w5 := Lib.hid (HB0w4.out.below hb HB0w4.out.lt); have HB1w5 := Lib.hid (HB1w4.out.below hb HB1w4.out.lt); have HB2w5 := Lib.hid (HB2w4.out.below hb HB2w4.out.lt); have HB3w5 := Lib.hid (HB3w4.out.below hb HB3w4.out.lt); have HB4w5 := Lib.hid (HB4w4.out.below hb HB4w4.out.lt)
    have HG4 := Lib.hid (show g + 4 < w4.heap.size from HB4w4.out.lt)
    clear hb HWw4 HGw4 HB0w4 HB1w4 HB2w4 HB3w4 HB4w4
    go_upto_region 11 with fail
    generalize ((w4.alloc (.cells #[.int .i64 hx.pos, .slice D m k, .slice D' m' k'] 49)).alloc (.cells #[.int .i64 hy.pos, .slice A n c, .slice A' n' c'] 49)) = w5 at *
    generalize w4.heap.size = g5 at *
    have x0 : w5.cell? ⟨g, 0, none⟩ = some (.int .i64 p.k) := HB0w5.out.cell 0 rfl; have x1 : w5.cell? ⟨g, 1, none⟩ = some (strV p.nm) := HB0w5.out.cell 1 rfl; have x2 : w5.cell? ⟨g, 2, none⟩ = some (strV p.to) := HB0w5.out.cell 2 rfl; have x3 : w5.cell? ⟨g, 3, none⟩ = some (.int .i64 p.h.pos) := HB0w5.out.cell 3 rfl; have x4 : w5.cell? ⟨g, 4, none⟩ = some (.slice A n c) := HB0w5.out.cell 4 rfl; have x5 : w5.cell? ⟨g, 5, none⟩ = some (.slice A' n' c') := HB0w5.out.cell 5 rfl
    have y0 : w5.cell? ⟨g + 1, 0, none⟩ = some (.int .i64 q.k) := HB1w5.out.cell 0 rfl; have y1 : w5.cell? ⟨g + 1, 1, none⟩ = some (strV q.nm) := HB1w5.out.cell 1 rfl; have y2 : w5.cell? ⟨g + 1, 2, none⟩ = some (strV q.to) := HB1w5.out.cell 2 rfl; have y3 : w5.cell? ⟨g + 1, 3, none⟩ = some (.int .i64 q.h.pos) := HB1w5.out.cell 3 rfl; have y4 : w5.cell? ⟨g + 1, 4, none⟩ = some (.slice D m k) := HB1w5.out.cell 4 rfl; have y5 : w5.cell? ⟨g + 1, 5, none⟩ = some (.slice D' m' k') := HB1w5.out.cell 5 rfl
    have u0 : w5.cell? ⟨g + 2, 0, none⟩ = some (.int .i64 0) := HB2w5.out.cell 0 rfl; have u1 : w5.cell? ⟨g + 2, 1, none⟩ = some (strV []) := HB2w5.out.cell 1 rfl; have u2 : w5.cell? ⟨g + 2, 2, none⟩ = some (strV []) := HB2w5.out.cell 2 rfl; have u3 : w5.cell? ⟨g + 2, 3, none⟩ = some (.int .i64 0) := HB2w5.out.cell 3 rfl; have u4 : w5.cell? ⟨g + 2, 4, none⟩ = some (.slice none 0 0) := HB2w5.out.cell 4 rfl; have u5 : w5.cell? ⟨g + 2, 5, none⟩ = some (.slice none 0 0) := HB2w5.out.cell 5 rfl
    have v0 : w5.cell? ⟨g + 3, 0, none⟩ = some (.int .i64 0) := HB3w5.out.cell 0 rfl; have v1 : w5.cell? ⟨g + 3, 1, none⟩ = some (strV []) := HB3w5.out.cell 1 rfl; have v2 : w5.cell? ⟨g + 3, 2, none⟩ = some (strV []) := HB3w5.out.cell 2 rfl; have v3 : w5.cell? ⟨g + 3, 3, none⟩ = some (.int .i64 0) := HB3w5.out.cell 3 rfl; have v4 : w5.cell? ⟨g + 3, 4, none⟩ = some (.slice none 0 0) := HB3w5.out.cell 4 rfl; have v5 : w5.cell? ⟨g + 3, 5, none⟩ = some (.slice none 0 0) := HB3w5.out.cell 5 rfl
    have s0 : w5.cell? ⟨g + 4, 0, none⟩ = some (.int .i64 0) := HB4w5.out.cell 0 rfl; have s1 : w5.cell? ⟨g + 4, 1, none⟩ = some (strV []) := HB4w5.out.cell 1 rfl; have s2 : w5.cell? ⟨g + 4, 2, none⟩ = some (strV []) := HB4w5.out.cell 2 rfl; have s3 : w5.cell? ⟨g + 4, 3, none⟩ = some (.int .i64 0) := HB4w5.out.cell 3 rfl; have s4 : w5.cell? ⟨g + 4, 4, none⟩ = some (.slice none 0 0) := HB4w5.out.cell 4 rfl; have s5 : w5.cell? ⟨g + 4, 5, none⟩ = some (.slice none 0 0) := HB4w5.out.cell 5 rfl
    have f0 : w5.frozen? ⟨g + 2, 0, none⟩ = false := HB2w5.out.frozen 0; have h0 : w5.frozen? ⟨g + 3, 0, none⟩ = false := HB3w5.out.frozen 0; have f1 : w5.frozen? ⟨g + 2, 1, none⟩ = false := HB2w5.out.frozen 1; have h1 : w5.frozen? ⟨g + 3, 1, none⟩ = false := HB3w5.out.frozen 1; have f2 : w5.frozen? ⟨g + 2, 2, none⟩ = false := HB2w5.out.frozen 2; have h2 : w5.frozen? ⟨g + 3, 2, none⟩ = false := HB3w5.out.frozen 2; have f3 : w5.frozen? ⟨g + 2, 3, none⟩ = false := HB2w5.out.frozen 3; have h3 : w5.frozen? ⟨g + 3, 3, none⟩ = false := HB3w5.out.frozen 3; have f4 : w5.frozen? ⟨g + 2, 4, none⟩ = false := HB2w5.out.frozen 4; have h4 : w5.frozen? ⟨g + 3, 4, none⟩ = false := HB3w5.out.frozen 4; have f5 : w5.frozen? ⟨g + 2, 5, none⟩ = false := HB2w5.out.frozen 5; have h5 : w5.frozen? ⟨g + 3, 5, none⟩ = false := HB3w5.out.frozen 5
    have ne5 := HG4.out
    have a0 : w5.cell? ⟨g5, 0, none⟩ = some (.int .i64 hx.pos) := HBX.out.cell 0 rfl; have a1 : w5.cell? ⟨g5, 1, none⟩ = some (.slice D m k) := HBX.out.cell 1 rfl; have a2 : w5.cell? ⟨g5, 2, none⟩ = some (.slice D' m' k') := HBX.out.cell 2 rfl
    have b0 : w5.cell? ⟨g5 + 1, 0, none⟩ = some (.int .i64 hy.pos) := HBY.out.cell 0 rfl; have b1 : w5.cell? ⟨g5 + 1, 1, none⟩ = some (.slice A n c) := HBY.out.cell 1 rfl; have b2 : w5.cell? ⟨g5 + 1, 2, none⟩ = some (.slice A' n' c') := HBY.out.cell 2 rfl
    have k3 : w5.frozen? ⟨g, 3, none⟩ = false := HB0w5.out.frozen 3; have l3 : w5.frozen? ⟨g + 1, 3, none⟩ = false := HB1w5.out.frozen 3; have k4 : w5.frozen? ⟨g, 4, none⟩ = false := HB0w5.out.frozen 4; have l4 : w5.frozen? ⟨g + 1, 4, none⟩ = false := HB1w5.out.frozen 4; have k5 : w5.frozen? ⟨g, 5, none⟩ = false := HB0w5.out.frozen 5; have l5 : w5.frozen? ⟨g + 1, 5, none⟩ = false := HB1w5.out.frozen 5
    have HB0w6 := Lib.hid (three_set (b' := g + 1) (blk3 HB0w5.out (.int .i64 hy.pos) (.slice A n c) (.slice A' n' c')) (by omega) (.int .i64 hx.pos) (.slice D m k) (.slice D' m' k'))
    have HB1w6 := Lib.hid (blk3 (three_set (b' := g) HB1w5.out (by omega) (.int .i64 hy.pos) (.slice A n c) (.slice A' n' c')) (.int .i64 hx.pos) (.slice D m k) (.slice D' m' k'))
    have HB2w6 := Lib.hid (three_set (b' := g + 1) (three_set (b' := g) HB2w5.out (by omega) (.int .i64 hy.pos) (.slice A n c) (.slice A' n' c')) (by omega) (.int .i64 hx.pos) (.slice D m k) (.slice D' m' k'))
    have HB3w6 := Lib.hid (three_set (b' := g + 1) (three_set (b' := g) HB3w5.out (by omega) (.int .i64 hy.pos) (.slice A n c) (.slice A' n' c')) (by omega) (.int .i64 hx.pos) (.slice D m k) (.slice D' m' k'))
    have HB4w6 := Lib.hid (three_set (b' := g + 1) (three_set (b' := g) HB4w5.out (by omega) (.int .i64 hy.pos) (.slice A n c) (.slice A' n' c')) (by omega) (.int .i64 hx.pos) (.slice D m k) (.slice D' m' k'))
    have HWw6 := Lib.hid ((((((HWw5.out.setCell (p := ⟨g, 3, none⟩) (Nat.le_refl _) (.int .i64 hy.pos)).setCell (p := ⟨g, 4, none⟩) (Nat.le_refl _) (.slice A n c)).setCell (p := ⟨g, 5, none⟩) (Nat.le_refl _) (.slice A' n' c')).setCell (p := ⟨g + 1, 3, none⟩) (Nat.le_succ _) (.int .i64 hx.pos)).setCell (p := ⟨g + 1, 4, none⟩) (Nat.le_succ _) (.slice D m k)).setCell (p := ⟨g + 1, 5, none⟩) (Nat.le_succ _) (.slice D' m' k'))
    go_upto_region 15 with fail
    generalize (World.setCell (World.setCell (World.setCell (World.setCell (World.setCell (World.setCell w5 ⟨g, 3, none⟩ (.int .i64 hy.pos)) ⟨g, 4, none⟩ (.slice A n c)) ⟨g, 5, none⟩ (.slice A' n' c')) ⟨g + 1, 3, none⟩ (.int .i64 hx.pos)) ⟨g + 1, 4, none⟩ (.slice D m k)) ⟨g + 1, 5, none⟩ (.slice D' m' k')) = w6 at *
    clear a0 b0 a1 b1 a2 b2 k3 l3 k4 l4 k5 l5
    clear x0 y0 u0 v0 s0 f0 h0 x1 y1 u1 v1 s1 f1 h1 x2 y2 u2 v2 s2 f2 h2 x3 y3 u3 v3 s3 f3 h3 x4 y4 u4 v4 s4 f4 h4 x5 y5 u5 v5 s5 f5 h5
    have x0 : w6.cell? ⟨g, 0, none⟩ = some (.int .i64 p.k) := HB0w6.out.cell 0 rfl; have x1 : w6.cell? ⟨g, 1, none⟩ = some (strV p.nm) := HB0w6.out.cell 1 rfl; have x2 : w6.cell? ⟨g, 2, none⟩ = some (strV p.to) := HB0w6.out.cell 2 rfl; have x3 : w6.cell? ⟨g, 3, none⟩ = some (.int .i64 hy.pos) := HB0w6.out.cell 3 rfl; have x4 : w6.cell? ⟨g, 4, none⟩ = some (.slice A n c) := HB0w6.out.cell 4 rfl; have x5 : w6.cell? ⟨g, 5, none⟩ = some (.slice A' n' c') := HB0w6.out.cell 5 rfl
    have y0 : w6.cell? ⟨g + 1, 0, none⟩ = some (.int .i64 q.k) := HB1w6.out.cell 0 rfl; have y1 : w6.cell? ⟨g + 1, 1, none⟩ = some (strV q.nm) := HB1w6.out.cell 1 rfl; have y2 : w6.cell? ⟨g + 1, 2, none⟩ = some (strV q.to) := HB1w6.out.cell 2 rfl; have y3 : w6.cell? ⟨g + 1, 3, none⟩ = some (.int .i64 hx.pos) := HB1w6.out.cell 3 rfl; have y4 : w6.cell? ⟨g + 1, 4, none⟩ = some (.slice D m k) := HB1w6.out.cell 4 rfl; have y5 : w6.cell? ⟨g + 1, 5, none⟩ = some (.slice D' m' k') := HB1w6.out.cell 5 rfl
    have u0 : w6.cell? ⟨g + 2, 0, none⟩ = some (.int .i64 0) := HB2w6.out.cell 0 rfl; have u1 : w6.cell? ⟨g + 2, 1, none⟩ = some (strV []) := HB2w6.out.cell 1 rfl; have u2 : w6.cell? ⟨g + 2, 2, none⟩ = some (strV []) := HB2w6.out.cell 2 rfl; have u3 : w6.cell? ⟨g + 2, 3, none⟩ = some (.int .i64 0) := HB2w6.out.cell 3 rfl; have u4 : w6.cell? ⟨g + 2, 4, none⟩ = some (.slice none 0 0) := HB2w6.out.cell 4 rfl; have u5 : w6.cell? ⟨g + 2, 5, none⟩ = some (.slice none 0 0) := HB2w6.out.cell 5 rfl
    have v0 : w6.cell? ⟨g + 3, 0, none⟩ = some (.int .i64 0) := HB3w6.out.cell 0 rfl; have v1 : w6.cell? ⟨g + 3, 1, none⟩ = some (strV []) := HB3w6.out.cell 1 rfl; have v2 : w6.cell? ⟨g + 3, 2, none⟩ = some (strV []) := HB3w6.out.cell 2 rfl; have v3 : w6.cell? ⟨g + 3, 3, none⟩ = some (.int .i64 0) := HB3w6.out.cell 3 rfl; have v4 : w6.cell? ⟨g + 3, 4, none⟩ = some (.slice none 0 0) := HB3w6.out.cell 4 rfl; have v5 : w6.cell? ⟨g + 3, 5, none⟩ = some (.slice none 0 0) := HB3w6.out.cell 5 rfl
    have s0 : w6.cell? ⟨g + 4, 0, none⟩ = some (.int .i64 0) := HB4w6.out.cell 0 rfl; have s1 : w6.cell? ⟨g + 4, 1, none⟩ = some (strV []) := HB4w6.out.cell 1 rfl; have s2 : w6.cell? ⟨g + 4, 2, none⟩ = some (strV []) := HB4w6.out.cell 2 rfl; have s3 : w6.cell? ⟨g + 4, 3, none⟩ = some (.int .i64 0) := HB4w6.out.cell 3 rfl; have s4 : w6.cell? ⟨g + 4, 4, none⟩ = some (.slice none 0 0) := HB4w6.out.cell 4 rfl; have s5 : w6.cell? ⟨g + 4, 5, none⟩ = some (.slice none 0 0) := HB4w6.out.cell 5 rfl
    have f0 : w6.frozen? ⟨g + 2, 0, none⟩ = false := HB2w6.out.frozen 0; have h0 : w6.frozen? ⟨g + 3, 0, none⟩ = false := HB3w6.out.frozen 0; have f1 : w6.frozen? ⟨g + 2, 1, none⟩ = false := HB2w6.out.frozen 1; have h1 : w6.frozen? ⟨g + 3, 1, none⟩ = false := HB3w6.out.frozen 1; have f2 : w6.frozen? ⟨g + 2, 2, none⟩ = false := HB2w6.out.frozen 2; have h2 : w6.frozen? ⟨g + 3, 2, none⟩ = false := HB3w6.out.frozen 2; have f3 : w6.frozen? ⟨g + 2, 3, none⟩ = false := HB2w6.out.frozen 3; have h3 : w6.frozen? ⟨g + 3, 3, none⟩ = false := HB3w6.out.frozen 3; have f4 : w6.frozen? ⟨g + 2, 4, none⟩ = false := HB2w6.out.frozen 4; have h4 : w6.frozen? ⟨g + 3, 4, none⟩ = false := HB3w6.out.frozen 4; have f5 : w6.frozen? ⟨g + 2, 5, none⟩ = false := HB2w6.out.frozen 5; have h5 : w6.frozen? ⟨g + 3, 5, none⟩ = false := HB3w6.out.frozen 5
    go_wp2_with fail
    go_region
    go_wp2_with fail
    obtain ⟨z2, z3⟩ := two_set6 HB2w6.out HB3w6.out (by omega) (.int .i64 q.k) (strV q.nm) (strV q.to) (.int .i64 hx.pos) (.slice D m k) (.slice D' m' k') (.int .i64 p.k) (strV p.nm) (strV p.to) (.int .i64 hy.pos) (.slice A n c) (.slice A' n' c')
    have hb6 := below_drewN (below_set12 (b := g + 2) (b' := g + 3) HWw6.out (by omega) (by omega) (.int .i64 q.k) (strV q.nm) (strV q.to) (.int .i64 hx.pos) (.slice D m k) (.slice D' m' k') (.int .i64 p.k) (strV p.nm) (strV p.to) (.int .i64 hy.pos) (.slice A n c) (.slice A' n' c')) 1
    have z2 := z2.drewN 1; have z3 := z3.drewN 1
    have hdr : ∀ W : World, W.drewN 1 = W.drew := fun _ => rfl
    rw [hdr] at hb6 z2 z3
    generalize World.drew (World.setCell (World.setCell (World.setCell (World.setCell (World.setCell (World.setCell (World.setCell (World.setCell (World.setCell (World.setCell (World.setCell (World.setCell w6 ⟨g + 2, 0, none⟩ (.int .i64 q.k)) ⟨g + 2, 1, none⟩ (strV q.nm)) ⟨g + 2, 2, none⟩ (strV q.to)) ⟨g + 2, 3, none⟩ (.int .i64 hx.pos)) ⟨g + 2, 4, none⟩ (.slice D m k)) ⟨g + 2, 5, none⟩ (.slice D' m' k')) ⟨g + 3, 0, none⟩ (.int .i64 p.k)) ⟨g + 3, 1, none⟩ (strV p.nm)) ⟨g + 3, 2, none⟩ (strV p.to)) ⟨g + 3, 3, none⟩ (.int .i64 hy.pos)) ⟨g + 3, 4, none⟩ (.slice A n c)) ⟨g + 3, 5, none⟩ (.slice A' n' c')) = W3 at *
    clear u0 v0 s0 u1 v1 s1 u2 v2 s2 u3 v3 s3 u4 v4 s4 u5 v5 s5 f0 h0 f1 h1 f2 h2 f3 h3 f4 h4 f5 h5
    have u0 : W3.cell? ⟨g + 2, 0, none⟩ = some (.int .i64 q.k) := z2.cell 0 rfl; have u1 : W3.cell? ⟨g + 2, 1, none⟩ = some (strV q.nm) := z2.cell 1 rfl; have u2 : W3.cell? ⟨g + 2, 2, none⟩ = some (strV q.to) := z2.cell 2 rfl; have u3 : W3.cell? ⟨g + 2, 3, none⟩ = some (.int .i64 hx.pos) := z2.cell 3 rfl; have u4 : W3.cell? ⟨g + 2, 4, none⟩ = some (.slice D m k) := z2.cell 4 rfl; have u5 : W3.cell? ⟨g + 2, 5, none⟩ = some (.slice D' m' k') := z2.cell 5 rfl
    have v0 : W3.cell? ⟨g + 3, 0, none⟩ = some (.int .i64 p.k) := z3.cell 0 rfl; have v1 : W3.cell? ⟨g + 3, 1, none⟩ = some (strV p.nm) := z3.cell 1 rfl; have v2 : W3.cell? ⟨g + 3, 2, none⟩ = some (strV p.to) := z3.cell 2 rfl; have v3 : W3.cell? ⟨g + 3, 3, none⟩ = some (.int .i64 hy.pos) := z3.cell 3 rfl; have v4 : W3.cell? ⟨g + 3, 4, none⟩ = some (.slice A n c) := z3.cell 4 rfl; have v5 : W3.cell? ⟨g + 3, 5, none⟩ = some (.slice A' n' c') := z3.cell 5 rfl
    refine bodyPost_ret (v := .tuple #[.agg #[.int .i64 q.k, strV q.nm, strV q.to, .int .i64 hx.pos, .slice D m k, .slice D' m' k'], .agg #[.int .i64 p.k, strV p.nm, strV p.to, .int .i64 hy.pos, .slice A n c, .slice A' n' c'], .bool true]) (by simp [results, Try.results56, go_sem, u0, v0, u1, v1, u2, v2, u3, v3, u4, v4, u5, v5]) rfl ?_
    have hW : Below w.heap.size w W3 := by rw [HGS.out]; exact hb6
    rw [HS.out]; exact ppEndE_some hW
  obtain ⟨lp, hlp⟩ : ∃ b, (p.k == 3 || p.k == 4) = b := ⟨_, rfl⟩
  obtain ⟨lq, hlq⟩ : ∃ b, (q.k == 3 || q.k == 4) = b := ⟨_, rfl⟩
  have HLP := Lib.hid hlp; have HLQ := Lib.hid hlq; have H3 := Lib.hid h3
  clear hlp hlq
  have e3 : (p.k == 3) = false ∨ ((p.k == 3) = true ∧ (q.k == 3) = false) := by
    by_cases h : p.k = 3
    · exact .inr ⟨by simpa using h, by simpa using fun h' => h3 ⟨h, h'⟩⟩
    · exact .inl (by simpa using h)
  clear h3
  have HE3 := Lib.hid e3; clear e3
  rcases HE3.out with e1 | ⟨e1, e2⟩
  all_goals
    go_wp2_with fail
    clear e1
    try clear e2
    clear x0 y0 u0 v0 s0 f0 h0 x1 y1 u1 v1 s1 f1 h1 x2 y2 u2 v2 s2 f2 h2 x3 y3 u3 v3 s3 f3 h3 x4 y4 u4 v4 s4 f4 h4 x5 y5 u5 v5 s5 f5 h5
    refine (refLines A n c A' n' c' p w3 lp HLP.out).mono ?_
    rintro e w4 ⟨rfl, hb⟩
    have HVw4 := Lib.hid (HVw3.out.mv hb); have GVw4 := Lib.hid (GVw3.out.mv hb); clear HVw3 GVw3
    have HWw4 := Lib.hid (HWw3.out.trans (hb.mono HGw3.out)); have HGw4 := Lib.hid (Nat.le_trans HGw3.out hb.size)
    have HB0w4 := Lib.hid (HB0w3.out.below hb HB0w3.out.lt); have HB1w4 := Lib.hid (HB1w3.out.below hb HB1w3.out.lt); have HB2w4 := Lib.hid (HB2w3.out.below hb HB2w3.out.lt); have HB3w4 := Lib.hid (HB3w3.out.below hb HB3w3.out.lt); have HB4w4 := Lib.hid (HB4w3.out.below hb HB4w3.out.lt)
    clear hb HWw3 HGw3 HB0w3 HB1w3 HB2w3 HB3w3 HB4w3
    have x0 : w4.cell? ⟨g, 0, none⟩ = some (.int .i64 p.k) := HB0w4.out.cell 0 rfl; have x1 : w4.cell? ⟨g, 1, none⟩ = some (strV p.nm) := HB0w4.out.cell 1 rfl; have x2 : w4.cell? ⟨g, 2, none⟩ = some (strV p.to) := HB0w4.out.cell 2 rfl; have x3 : w4.cell? ⟨g, 3, none⟩ = some (.int .i64 p.h.pos) := HB0w4.out.cell 3 rfl; have x4 : w4.cell? ⟨g, 4, none⟩ = some (.slice A n c) := HB0w4.out.cell 4 rfl; have x5 : w4.cell? ⟨g, 5, none⟩ = some (.slice A' n' c') := HB0w4.out.cell 5 rfl
    have y0 : w4.cell? ⟨g + 1, 0, none⟩ = some (.int .i64 q.k) := HB1w4.out.cell 0 rfl; have y1 : w4.cell? ⟨g + 1, 1, none⟩ = some (strV q.nm) := HB1w4.out.cell 1 rfl; have y2 : w4.cell? ⟨g + 1, 2, none⟩ = some (strV q.to) := HB1w4.out.cell 2 rfl; have y3 : w4.cell? ⟨g + 1, 3, none⟩ = some (.int .i64 q.h.pos) := HB1w4.out.cell 3 rfl; have y4 : w4.cell? ⟨g + 1, 4, none⟩ = some (.slice D m k) := HB1w4.out.cell 4 rfl; have y5 : w4.cell? ⟨g + 1, 5, none⟩ = some (.slice D' m' k') := HB1w4.out.cell 5 rfl
    have u0 : w4.cell? ⟨g + 2, 0, none⟩ = some (.int .i64 0) := HB2w4.out.cell 0 rfl; have u1 : w4.cell? ⟨g + 2, 1, none⟩ = some (strV []) := HB2w4.out.cell 1 rfl; have u2 : w4.cell? ⟨g + 2, 2, none⟩ = some (strV []) := HB2w4.out.cell 2 rfl; have u3 : w4.cell? ⟨g + 2, 3, none⟩ = some (.int .i64 0) := HB2w4.out.cell 3 rfl; have u4 : w4.cell? ⟨g + 2, 4, none⟩ = some (.slice none 0 0) := HB2w4.out.cell 4 rfl; have u5 : w4.cell? ⟨g + 2, 5, none⟩ = some (.slice none 0 0) := HB2w4.out.cell 5 rfl
    have v0 : w4.cell? ⟨g + 3, 0, none⟩ = some (.int .i64 0) := HB3w4.out.cell 0 rfl; have v1 : w4.cell? ⟨g + 3, 1, none⟩ = some (strV []) := HB3w4.out.cell 1 rfl; have v2 : w4.cell? ⟨g + 3, 2, none⟩ = some (strV []) := HB3w4.out.cell 2 rfl; have v3 : w4.cell? ⟨g + 3, 3, none⟩ = some (.int .i64 0) := HB3w4.out.cell 3 rfl; have v4 : w4.cell? ⟨g + 3, 4, none⟩ = some (.slice none 0 0) := HB3w4.out.cell 4 rfl; have v5 : w4.cell? ⟨g + 3, 5, none⟩ = some (.slice none 0 0) := HB3w4.out.cell 5 rfl
    have s0 : w4.cell? ⟨g + 4, 0, none⟩ = some (.int .i64 0) := HB4w4.out.cell 0 rfl; have s1 : w4.cell? ⟨g + 4, 1, none⟩ = some (strV []) := HB4w4.out.cell 1 rfl; have s2 : w4.cell? ⟨g + 4, 2, none⟩ = some (strV []) := HB4w4.out.cell 2 rfl; have s3 : w4.cell? ⟨g + 4, 3, none⟩ = some (.int .i64 0) := HB4w4.out.cell 3 rfl; have s4 : w4.cell? ⟨g + 4, 4, none⟩ = some (.slice none 0 0) := HB4w4.out.cell 4 rfl; have s5 : w4.cell? ⟨g + 4, 5, none⟩ = some (.slice none 0 0) := HB4w4.out.cell 5 rfl
    have f0 : w4.frozen? ⟨g + 2, 0, none⟩ = false := HB2w4.out.frozen 0; have h0 : w4.frozen? ⟨g + 3, 0, none⟩ = false := HB3w4.out.frozen 0; have f1 : w4.frozen? ⟨g + 2, 1, none⟩ = false := HB2w4.out.frozen 1; have h1 : w4.frozen? ⟨g + 3, 1, none⟩ = false := HB3w4.out.frozen 1; have f2 : w4.frozen? ⟨g + 2, 2, none⟩ = false := HB2w4.out.frozen 2; have h2 : w4.frozen? ⟨g + 3, 2, none⟩ = false := HB3w4.out.frozen 2; have f3 : w4.frozen? ⟨g + 2, 3, none⟩ = false := HB2w4.out.frozen 3; have h3 : w4.frozen? ⟨g + 3, 3, none⟩ = false := HB3w4.out.frozen 3; have f4 : w4.frozen? ⟨g + 2, 4, none⟩ = false := HB2w4.out.frozen 4; have h4 : w4.frozen? ⟨g + 3, 4, none⟩ = false := HB3w4.out.frozen 4; have f5 : w4.frozen? ⟨g + 2, 5, none⟩ = false := HB2w4.out.frozen 5; have h5 : w4.frozen? ⟨g + 3, 5, none⟩ = false := HB3w4.out.frozen 5
    go_wp2_with fail
    clear x0 y0 u0 v0 s0 f0 h0 x1 y1 u1 v1 s1 f1 h1 x2 y2 u2 v2 s2 f2 h2 x3 y3 u3 v3 s3 f3 h3 x4 y4 u4 v4 s4 f4 h4 x5 y5 u5 v5 s5 f5 h5
    refine (refLines D m k D' m' k' q w4 lq HLQ.out).mono ?_
    rintro e w5 ⟨rfl, hb⟩
    have HVw5 := Lib.hid (HVw4.out.mv hb); have GVw5 := Lib.hid (GVw4.out.mv hb); clear HVw4 GVw4
    have HWw5 := Lib.hid (HWw4.out.trans (hb.mono HGw4.out)); have HGw5 := Lib.hid (Nat.le_trans HGw4.out hb.size)
    have HB0w5 := Lib.hid (HB0w4.out.below hb HB0w4.out.lt); have HB1w5 := Lib.hid (HB1w4.out.below hb HB1w4.out.lt); have HB2w5 := Lib.hid (HB2w4.out.below hb HB2w4.out.lt); have HB3w5 := Lib.hid (HB3w4.out.below hb HB3w4.out.lt); have HB4w5 := Lib.hid (HB4w4.out.below hb HB4w4.out.lt)
    clear hb HWw4 HGw4 HB0w4 HB1w4 HB2w4 HB3w4 HB4w4
    have x0 : w5.cell? ⟨g, 0, none⟩ = some (.int .i64 p.k) := HB0w5.out.cell 0 rfl; have x1 : w5.cell? ⟨g, 1, none⟩ = some (strV p.nm) := HB0w5.out.cell 1 rfl; have x2 : w5.cell? ⟨g, 2, none⟩ = some (strV p.to) := HB0w5.out.cell 2 rfl; have x3 : w5.cell? ⟨g, 3, none⟩ = some (.int .i64 p.h.pos) := HB0w5.out.cell 3 rfl; have x4 : w5.cell? ⟨g, 4, none⟩ = some (.slice A n c) := HB0w5.out.cell 4 rfl; have x5 : w5.cell? ⟨g, 5, none⟩ = some (.slice A' n' c') := HB0w5.out.cell 5 rfl
    have y0 : w5.cell? ⟨g + 1, 0, none⟩ = some (.int .i64 q.k) := HB1w5.out.cell 0 rfl; have y1 : w5.cell? ⟨g + 1, 1, none⟩ = some (strV q.nm) := HB1w5.out.cell 1 rfl; have y2 : w5.cell? ⟨g + 1, 2, none⟩ = some (strV q.to) := HB1w5.out.cell 2 rfl; have y3 : w5.cell? ⟨g + 1, 3, none⟩ = some (.int .i64 q.h.pos) := HB1w5.out.cell 3 rfl; have y4 : w5.cell? ⟨g + 1, 4, none⟩ = some (.slice D m k) := HB1w5.out.cell 4 rfl; have y5 : w5.cell? ⟨g + 1, 5, none⟩ = some (.slice D' m' k') := HB1w5.out.cell 5 rfl
    have u0 : w5.cell? ⟨g + 2, 0, none⟩ = some (.int .i64 0) := HB2w5.out.cell 0 rfl; have u1 : w5.cell? ⟨g + 2, 1, none⟩ = some (strV []) := HB2w5.out.cell 1 rfl; have u2 : w5.cell? ⟨g + 2, 2, none⟩ = some (strV []) := HB2w5.out.cell 2 rfl; have u3 : w5.cell? ⟨g + 2, 3, none⟩ = some (.int .i64 0) := HB2w5.out.cell 3 rfl; have u4 : w5.cell? ⟨g + 2, 4, none⟩ = some (.slice none 0 0) := HB2w5.out.cell 4 rfl; have u5 : w5.cell? ⟨g + 2, 5, none⟩ = some (.slice none 0 0) := HB2w5.out.cell 5 rfl
    have v0 : w5.cell? ⟨g + 3, 0, none⟩ = some (.int .i64 0) := HB3w5.out.cell 0 rfl; have v1 : w5.cell? ⟨g + 3, 1, none⟩ = some (strV []) := HB3w5.out.cell 1 rfl; have v2 : w5.cell? ⟨g + 3, 2, none⟩ = some (strV []) := HB3w5.out.cell 2 rfl; have v3 : w5.cell? ⟨g + 3, 3, none⟩ = some (.int .i64 0) := HB3w5.out.cell 3 rfl; have v4 : w5.cell? ⟨g + 3, 4, none⟩ = some (.slice none 0 0) := HB3w5.out.cell 4 rfl; have v5 : w5.cell? ⟨g + 3, 5, none⟩ = some (.slice none 0 0) := HB3w5.out.cell 5 rfl
    have s0 : w5.cell? ⟨g + 4, 0, none⟩ = some (.int .i64 0) := HB4w5.out.cell 0 rfl; have s1 : w5.cell? ⟨g + 4, 1, none⟩ = some (strV []) := HB4w5.out.cell 1 rfl; have s2 : w5.cell? ⟨g + 4, 2, none⟩ = some (strV []) := HB4w5.out.cell 2 rfl; have s3 : w5.cell? ⟨g + 4, 3, none⟩ = some (.int .i64 0) := HB4w5.out.cell 3 rfl; have s4 : w5.cell? ⟨g + 4, 4, none⟩ = some (.slice none 0 0) := HB4w5.out.cell 4 rfl; have s5 : w5.cell? ⟨g + 4, 5, none⟩ = some (.slice none 0 0) := HB4w5.out.cell 5 rfl
    have f0 : w5.frozen? ⟨g + 2, 0, none⟩ = false := HB2w5.out.frozen 0; have h0 : w5.frozen? ⟨g + 3, 0, none⟩ = false := HB3w5.out.frozen 0; have f1 : w5.frozen? ⟨g + 2, 1, none⟩ = false := HB2w5.out.frozen 1; have h1 : w5.frozen? ⟨g + 3, 1, none⟩ = false := HB3w5.out.frozen 1; have f2 : w5.frozen? ⟨g + 2, 2, none⟩ = false := HB2w5.out.frozen 2; have h2 : w5.frozen? ⟨g + 3, 2, none⟩ = false := HB3w5.out.frozen 2; have f3 : w5.frozen? ⟨g + 2, 3, none⟩ = false := HB2w5.out.frozen 3; have h3 : w5.frozen? ⟨g + 3, 3, none⟩ = false := HB3w5.out.frozen 3; have f4 : w5.frozen? ⟨g + 2, 4, none⟩ = false := HB2w5.out.frozen 4; have h4 : w5.frozen? ⟨g + 3, 4, none⟩ = false := HB3w5.out.frozen 4; have f5 : w5.frozen? ⟨g + 2, 5, none⟩ = false := HB2w5.out.frozen 5; have h5 : w5.frozen? ⟨g + 3, 5, none⟩ = false := HB3w5.out.frozen 5
    have hs4 := HB4w5.out.lt
    by_cases ho : p.k = 2 ∧ (q.k = 3 ∨ q.k = 4) ∧ q.nm = p.to
    · have e4 : (p.k == 2) = true := by simpa using ho.1
      obtain rfl : lq = true := by rw [← HLQ.out]; rcases ho.2.1 with h | h <;> simp [h]
      have e5 : (q.nm == p.to) = true := by simpa using ho.2.2
      have l1 : w5.frozen? ⟨g + 1, 1, none⟩ = false := HB1w5.out.frozen 1
      have HS : Hid (passP p q = some (⟨q.k, p.nm, q.to, q.h⟩, p)) := Lib.hid (passP_o HBP.out HBQ.out HBA.out ho.1 ho.2.1 ho.2.2)
      clear ho
      have HB1w6 := Lib.hid (show Blk (World.setCell w5 ⟨g + 1, 1, none⟩ (strV p.nm)) (g + 1) 51 #[.int .i64 q.k, strV p.nm, strV q.to, .int .i64 q.h.pos, .slice D m k, .slice D' m' k'] from HB1w5.out.set 1 (strV p.nm))
      have HB0w6 := Lib.hid (HB0w5.out.set_ne (show g ≠ g + 1 from by omega) 1 (strV p.nm))
      have HB2w6 := Lib.hid (HB2w5.out.set_ne (show g + 2 ≠ g + 1 from by omega) 1 (strV p.nm))
      have HB3w6 := Lib.hid (HB3w5.out.set_ne (show g + 3 ≠ g + 1 from by omega) 1 (strV p.nm))
      have HB4w6 := Lib.hid (HB4w5.out.set_ne (show g + 4 ≠ g + 1 from by omega) 1 (strV p.nm))
      have HWw6 := Lib.hid (HWw5.out.setCell (p := ⟨g + 1, 1, none⟩) (Nat.le_succ _) (strV p.nm))
      go_upto_region 20 with fail
      generalize (World.setCell w5 ⟨g + 1, 1, none⟩ (strV p.nm)) = w6 at *
      clear l1
      clear x0 y0 u0 v0 s0 f0 h0 x1 y1 u1 v1 s1 f1 h1 x2 y2 u2 v2 s2 f2 h2 x3 y3 u3 v3 s3 f3 h3 x4 y4 u4 v4 s4 f4 h4 x5 y5 u5 v5 s5 f5 h5
      have x0 : w6.cell? ⟨g, 0, none⟩ = some (.int .i64 p.k) := HB0w6.out.cell 0 rfl; have x1 : w6.cell? ⟨g, 1, none⟩ = some (strV p.nm) := HB0w6.out.cell 1 rfl; have x2 : w6.cell? ⟨g, 2, none⟩ = some (strV p.to) := HB0w6.out.cell 2 rfl; have x3 : w6.cell? ⟨g, 3, none⟩ = some (.int .i64 p.h.pos) := HB0w6.out.cell 3 rfl; have x4 : w6.cell? ⟨g, 4, none⟩ = some (.slice A n c) := HB0w6.out.cell 4 rfl; have x5 : w6.cell? ⟨g, 5, none⟩ = some (.slice A' n' c') := HB0w6.out.cell 5 rfl
      have y0 : w6.cell? ⟨g + 1, 0, none⟩ = some (.int .i64 q.k) := HB1w6.out.cell 0 rfl; have y1 : w6.cell? ⟨g + 1, 1, none⟩ = some (strV p.nm) := HB1w6.out.cell 1 rfl; have y2 : w6.cell? ⟨g + 1, 2, none⟩ = some (strV q.to) := HB1w6.out.cell 2 rfl; have y3 : w6.cell? ⟨g + 1, 3, none⟩ = some (.int .i64 q.h.pos) := HB1w6.out.cell 3 rfl; have y4 : w6.cell? ⟨g + 1, 4, none⟩ = some (.slice D m k) := HB1w6.out.cell 4 rfl; have y5 : w6.cell? ⟨g + 1, 5, none⟩ = some (.slice D' m' k') := HB1w6.out.cell 5 rfl
      have u0 : w6.cell? ⟨g + 2, 0, none⟩ = some (.int .i64 0) := HB2w6.out.cell 0 rfl; have u1 : w6.cell? ⟨g + 2, 1, none⟩ = some (strV []) := HB2w6.out.cell 1 rfl; have u2 : w6.cell? ⟨g + 2, 2, none⟩ = some (strV []) := HB2w6.out.cell 2 rfl; have u3 : w6.cell? ⟨g + 2, 3, none⟩ = some (.int .i64 0) := HB2w6.out.cell 3 rfl; have u4 : w6.cell? ⟨g + 2, 4, none⟩ = some (.slice none 0 0) := HB2w6.out.cell 4 rfl; have u5 : w6.cell? ⟨g + 2, 5, none⟩ = some (.slice none 0 0) := HB2w6.out.cell 5 rfl
      have v0 : w6.cell? ⟨g + 3, 0, none⟩ = some (.int .i64 0) := HB3w6.out.cell 0 rfl; have v1 : w6.cell? ⟨g + 3, 1, none⟩ = some (strV []) := HB3w6.out.cell 1 rfl; have v2 : w6.cell? ⟨g + 3, 2, none⟩ = some (strV []) := HB3w6.out.cell 2 rfl; have v3 : w6.cell? ⟨g + 3, 3, none⟩ = some (.int .i64 0) := HB3w6.out.cell 3 rfl; have v4 : w6.cell? ⟨g + 3, 4, none⟩ = some (.slice none 0 0) := HB3w6.out.cell 4 rfl; have v5 : w6.cell? ⟨g + 3, 5, none⟩ = some (.slice none 0 0) := HB3w6.out.cell 5 rfl
      have s0 : w6.cell? ⟨g + 4, 0, none⟩ = some (.int .i64 0) := HB4w6.out.cell 0 rfl; have s1 : w6.cell? ⟨g + 4, 1, none⟩ = some (strV []) := HB4w6.out.cell 1 rfl; have s2 : w6.cell? ⟨g + 4, 2, none⟩ = some (strV []) := HB4w6.out.cell 2 rfl; have s3 : w6.cell? ⟨g + 4, 3, none⟩ = some (.int .i64 0) := HB4w6.out.cell 3 rfl; have s4 : w6.cell? ⟨g + 4, 4, none⟩ = some (.slice none 0 0) := HB4w6.out.cell 4 rfl; have s5 : w6.cell? ⟨g + 4, 5, none⟩ = some (.slice none 0 0) := HB4w6.out.cell 5 rfl
      have f0 : w6.frozen? ⟨g + 2, 0, none⟩ = false := HB2w6.out.frozen 0; have h0 : w6.frozen? ⟨g + 3, 0, none⟩ = false := HB3w6.out.frozen 0; have f1 : w6.frozen? ⟨g + 2, 1, none⟩ = false := HB2w6.out.frozen 1; have h1 : w6.frozen? ⟨g + 3, 1, none⟩ = false := HB3w6.out.frozen 1; have f2 : w6.frozen? ⟨g + 2, 2, none⟩ = false := HB2w6.out.frozen 2; have h2 : w6.frozen? ⟨g + 3, 2, none⟩ = false := HB3w6.out.frozen 2; have f3 : w6.frozen? ⟨g + 2, 3, none⟩ = false := HB2w6.out.frozen 3; have h3 : w6.frozen? ⟨g + 3, 3, none⟩ = false := HB3w6.out.frozen 3; have f4 : w6.frozen? ⟨g + 2, 4, none⟩ = false := HB2w6.out.frozen 4; have h4 : w6.frozen? ⟨g + 3, 4, none⟩ = false := HB3w6.out.frozen 4; have f5 : w6.frozen? ⟨g + 2, 5, none⟩ = false := HB2w6.out.frozen 5; have h5 : w6.frozen? ⟨g + 3, 5, none⟩ = false := HB3w6.out.frozen 5
      go_wp2_with fail
      go_region
      go_wp2_with fail
      obtain ⟨z2, z3⟩ := two_set6 HB2w6.out HB3w6.out (by omega) (.int .i64 q.k) (strV p.nm) (strV q.to) (.int .i64 q.h.pos) (.slice D m k) (.slice D' m' k') (.int .i64 p.k) (strV p.nm) (strV p.to) (.int .i64 p.h.pos) (.slice A n c) (.slice A' n' c')
      have hb6 := below_drewN (below_set12 (b := g + 2) (b' := g + 3) HWw6.out (by omega) (by omega) (.int .i64 q.k) (strV p.nm) (strV q.to) (.int .i64 q.h.pos) (.slice D m k) (.slice D' m' k') (.int .i64 p.k) (strV p.nm) (strV p.to) (.int .i64 p.h.pos) (.slice A n c) (.slice A' n' c')) 1
      have z2 := z2.drewN 1; have z3 := z3.drewN 1
      have hdr : ∀ W : World, W.drewN 1 = W.drew := fun _ => rfl
      rw [hdr] at hb6 z2 z3
      generalize World.drew (World.setCell (World.setCell (World.setCell (World.setCell (World.setCell (World.setCell (World.setCell (World.setCell (World.setCell (World.setCell (World.setCell (World.setCell w6 ⟨g + 2, 0, none⟩ (.int .i64 q.k)) ⟨g + 2, 1, none⟩ (strV p.nm)) ⟨g + 2, 2, none⟩ (strV q.to)) ⟨g + 2, 3, none⟩ (.int .i64 q.h.pos)) ⟨g + 2, 4, none⟩ (.slice D m k)) ⟨g + 2, 5, none⟩ (.slice D' m' k')) ⟨g + 3, 0, none⟩ (.int .i64 p.k)) ⟨g + 3, 1, none⟩ (strV p.nm)) ⟨g + 3, 2, none⟩ (strV p.to)) ⟨g + 3, 3, none⟩ (.int .i64 p.h.pos)) ⟨g + 3, 4, none⟩ (.slice A n c)) ⟨g + 3, 5, none⟩ (.slice A' n' c')) = W3 at *
      clear u0 v0 s0 u1 v1 s1 u2 v2 s2 u3 v3 s3 u4 v4 s4 u5 v5 s5 f0 h0 f1 h1 f2 h2 f3 h3 f4 h4 f5 h5
      have u0 : W3.cell? ⟨g + 2, 0, none⟩ = some (.int .i64 q.k) := z2.cell 0 rfl; have u1 : W3.cell? ⟨g + 2, 1, none⟩ = some (strV p.nm) := z2.cell 1 rfl; have u2 : W3.cell? ⟨g + 2, 2, none⟩ = some (strV q.to) := z2.cell 2 rfl; have u3 : W3.cell? ⟨g + 2, 3, none⟩ = some (.int .i64 q.h.pos) := z2.cell 3 rfl; have u4 : W3.cell? ⟨g + 2, 4, none⟩ = some (.slice D m k) := z2.cell 4 rfl; have u5 : W3.cell? ⟨g + 2, 5, none⟩ = some (.slice D' m' k') := z2.cell 5 rfl
      have v0 : W3.cell? ⟨g + 3, 0, none⟩ = some (.int .i64 p.k) := z3.cell 0 rfl; have v1 : W3.cell? ⟨g + 3, 1, none⟩ = some (strV p.nm) := z3.cell 1 rfl; have v2 : W3.cell? ⟨g + 3, 2, none⟩ = some (strV p.to) := z3.cell 2 rfl; have v3 : W3.cell? ⟨g + 3, 3, none⟩ = some (.int .i64 p.h.pos) := z3.cell 3 rfl; have v4 : W3.cell? ⟨g + 3, 4, none⟩ = some (.slice A n c) := z3.cell 4 rfl; have v5 : W3.cell? ⟨g + 3, 5, none⟩ = some (.slice A' n' c') := z3.cell 5 rfl
      refine bodyPost_ret (v := .tuple #[.agg #[.int .i64 q.k, strV p.nm, strV q.to, .int .i64 q.h.pos, .slice D m k, .slice D' m' k'], .agg #[.int .i64 p.k, strV p.nm, strV p.to, .int .i64 p.h.pos, .slice A n c, .slice A' n' c'], .bool true]) (by simp [results, Try.results56, go_sem, u0, v0, u1, v1, u2, v2, u3, v3, u4, v4, u5, v5]) rfl ?_
      have hW : Below w.heap.size w W3 := by rw [HGS.out]; exact hb6
      rw [HS.out]; exact ppEndE_some hW
    by_cases hi : q.k = 2 ∧ (p.k = 3 ∨ p.k = 4) ∧ p.nm = q.nm
    · have e4 : (q.k == 2) = true := by simpa using hi.1
      obtain rfl : lp = true := by rw [← HLP.out]; rcases hi.2.1 with h | h <;> simp [h]
      have e5 : (p.nm == q.nm) = true := by simpa using hi.2.2
      have e6 : (p.k == 2) = false := by rw [beq_eq_false_iff_ne]; rcases hi.2.1 with h | h <;> omega
      have l1 : w5.frozen? ⟨g, 1, none⟩ = false := HB0w5.out.frozen 1
      have HS : Hid (passP p q = some (q, ⟨p.k, q.to, p.to, p.h⟩)) := Lib.hid (passP_i HBP.out HBQ.out HBA.out hi.1 hi.2.1 hi.2.2)
      clear hi ho
      have HB0w6 := Lib.hid (show Blk (World.setCell w5 ⟨g, 1, none⟩ (strV q.to)) g 51 #[.int .i64 p.k, strV q.to, strV p.to, .int .i64 p.h.pos, .slice A n c, .slice A' n' c'] from HB0w5.out.set 1 (strV q.to))
      have HB1w6 := Lib.hid (HB1w5.out.set_ne (show g + 1 ≠ g from by omega) 1 (strV q.to))
      have HB2w6 := Lib.hid (HB2w5.out.set_ne (show g + 2 ≠ g from by omega) 1 (strV q.to))
      have HB3w6 := Lib.hid (HB3w5.out.set_ne (show g + 3 ≠ g from by omega) 1 (strV q.to))
      have HB4w6 := Lib.hid (HB4w5.out.set_ne (show g + 4 ≠ g from by omega) 1 (strV q.to))
      have HWw6 := Lib.hid (HWw5.out.setCell (p := ⟨g, 1, none⟩) (Nat.le_refl _) (strV q.to))
      go_upto_region 23 with fail
      generalize (World.setCell w5 ⟨g, 1, none⟩ (strV q.to)) = w6 at *
      clear l1
      clear x0 y0 u0 v0 s0 f0 h0 x1 y1 u1 v1 s1 f1 h1 x2 y2 u2 v2 s2 f2 h2 x3 y3 u3 v3 s3 f3 h3 x4 y4 u4 v4 s4 f4 h4 x5 y5 u5 v5 s5 f5 h5
      have x0 : w6.cell? ⟨g, 0, none⟩ = some (.int .i64 p.k) := HB0w6.out.cell 0 rfl; have x1 : w6.cell? ⟨g, 1, none⟩ = some (strV q.to) := HB0w6.out.cell 1 rfl; have x2 : w6.cell? ⟨g, 2, none⟩ = some (strV p.to) := HB0w6.out.cell 2 rfl; have x3 : w6.cell? ⟨g, 3, none⟩ = some (.int .i64 p.h.pos) := HB0w6.out.cell 3 rfl; have x4 : w6.cell? ⟨g, 4, none⟩ = some (.slice A n c) := HB0w6.out.cell 4 rfl; have x5 : w6.cell? ⟨g, 5, none⟩ = some (.slice A' n' c') := HB0w6.out.cell 5 rfl
      have y0 : w6.cell? ⟨g + 1, 0, none⟩ = some (.int .i64 q.k) := HB1w6.out.cell 0 rfl; have y1 : w6.cell? ⟨g + 1, 1, none⟩ = some (strV q.nm) := HB1w6.out.cell 1 rfl; have y2 : w6.cell? ⟨g + 1, 2, none⟩ = some (strV q.to) := HB1w6.out.cell 2 rfl; have y3 : w6.cell? ⟨g + 1, 3, none⟩ = some (.int .i64 q.h.pos) := HB1w6.out.cell 3 rfl; have y4 : w6.cell? ⟨g + 1, 4, none⟩ = some (.slice D m k) := HB1w6.out.cell 4 rfl; have y5 : w6.cell? ⟨g + 1, 5, none⟩ = some (.slice D' m' k') := HB1w6.out.cell 5 rfl
      have u0 : w6.cell? ⟨g + 2, 0, none⟩ = some (.int .i64 0) := HB2w6.out.cell 0 rfl; have u1 : w6.cell? ⟨g + 2, 1, none⟩ = some (strV []) := HB2w6.out.cell 1 rfl; have u2 : w6.cell? ⟨g + 2, 2, none⟩ = some (strV []) := HB2w6.out.cell 2 rfl; have u3 : w6.cell? ⟨g + 2, 3, none⟩ = some (.int .i64 0) := HB2w6.out.cell 3 rfl; have u4 : w6.cell? ⟨g + 2, 4, none⟩ = some (.slice none 0 0) := HB2w6.out.cell 4 rfl; have u5 : w6.cell? ⟨g + 2, 5, none⟩ = some (.slice none 0 0) := HB2w6.out.cell 5 rfl
      have v0 : w6.cell? ⟨g + 3, 0, none⟩ = some (.int .i64 0) := HB3w6.out.cell 0 rfl; have v1 : w6.cell? ⟨g + 3, 1, none⟩ = some (strV []) := HB3w6.out.cell 1 rfl; have v2 : w6.cell? ⟨g + 3, 2, none⟩ = some (strV []) := HB3w6.out.cell 2 rfl; have v3 : w6.cell? ⟨g + 3, 3, none⟩ = some (.int .i64 0) := HB3w6.out.cell 3 rfl; have v4 : w6.cell? ⟨g + 3, 4, none⟩ = some (.slice none 0 0) := HB3w6.out.cell 4 rfl; have v5 : w6.cell? ⟨g + 3, 5, none⟩ = some (.slice none 0 0) := HB3w6.out.cell 5 rfl
      have s0 : w6.cell? ⟨g + 4, 0, none⟩ = some (.int .i64 0) := HB4w6.out.cell 0 rfl; have s1 : w6.cell? ⟨g + 4, 1, none⟩ = some (strV []) := HB4w6.out.cell 1 rfl; have s2 : w6.cell? ⟨g + 4, 2, none⟩ = some (strV []) := HB4w6.out.cell 2 rfl; have s3 : w6.cell? ⟨g + 4, 3, none⟩ = some (.int .i64 0) := HB4w6.out.cell 3 rfl; have s4 : w6.cell? ⟨g + 4, 4, none⟩ = some (.slice none 0 0) := HB4w6.out.cell 4 rfl; have s5 : w6.cell? ⟨g + 4, 5, none⟩ = some (.slice none 0 0) := HB4w6.out.cell 5 rfl
      have f0 : w6.frozen? ⟨g + 2, 0, none⟩ = false := HB2w6.out.frozen 0; have h0 : w6.frozen? ⟨g + 3, 0, none⟩ = false := HB3w6.out.frozen 0; have f1 : w6.frozen? ⟨g + 2, 1, none⟩ = false := HB2w6.out.frozen 1; have h1 : w6.frozen? ⟨g + 3, 1, none⟩ = false := HB3w6.out.frozen 1; have f2 : w6.frozen? ⟨g + 2, 2, none⟩ = false := HB2w6.out.frozen 2; have h2 : w6.frozen? ⟨g + 3, 2, none⟩ = false := HB3w6.out.frozen 2; have f3 : w6.frozen? ⟨g + 2, 3, none⟩ = false := HB2w6.out.frozen 3; have h3 : w6.frozen? ⟨g + 3, 3, none⟩ = false := HB3w6.out.frozen 3; have f4 : w6.frozen? ⟨g + 2, 4, none⟩ = false := HB2w6.out.frozen 4; have h4 : w6.frozen? ⟨g + 3, 4, none⟩ = false := HB3w6.out.frozen 4; have f5 : w6.frozen? ⟨g + 2, 5, none⟩ = false := HB2w6.out.frozen 5; have h5 : w6.frozen? ⟨g + 3, 5, none⟩ = false := HB3w6.out.frozen 5
      go_wp2_with fail
      go_region
      go_wp2_with fail
      obtain ⟨z2, z3⟩ := two_set6 HB2w6.out HB3w6.out (by omega) (.int .i64 q.k) (strV q.nm) (strV q.to) (.int .i64 q.h.pos) (.slice D m k) (.slice D' m' k') (.int .i64 p.k) (strV q.to) (strV p.to) (.int .i64 p.h.pos) (.slice A n c) (.slice A' n' c')
      have hb6 := below_drewN (below_set12 (b := g + 2) (b' := g + 3) HWw6.out (by omega) (by omega) (.int .i64 q.k) (strV q.nm) (strV q.to) (.int .i64 q.h.pos) (.slice D m k) (.slice D' m' k') (.int .i64 p.k) (strV q.to) (strV p.to) (.int .i64 p.h.pos) (.slice A n c) (.slice A' n' c')) 1
      have z2 := z2.drewN 1; have z3 := z3.drewN 1
      have hdr : ∀ W : World, W.drewN 1 = W.drew := fun _ => rfl
      rw [hdr] at hb6 z2 z3
      generalize World.drew (World.setCell (World.setCell (World.setCell (World.setCell (World.setCell (World.setCell (World.setCell (World.setCell (World.setCell (World.setCell (World.setCell (World.setCell w6 ⟨g + 2, 0, none⟩ (.int .i64 q.k)) ⟨g + 2, 1, none⟩ (strV q.nm)) ⟨g + 2, 2, none⟩ (strV q.to)) ⟨g + 2, 3, none⟩ (.int .i64 q.h.pos)) ⟨g + 2, 4, none⟩ (.slice D m k)) ⟨g + 2, 5, none⟩ (.slice D' m' k')) ⟨g + 3, 0, none⟩ (.int .i64 p.k)) ⟨g + 3, 1, none⟩ (strV q.to)) ⟨g + 3, 2, none⟩ (strV p.to)) ⟨g + 3, 3, none⟩ (.int .i64 p.h.pos)) ⟨g + 3, 4, none⟩ (.slice A n c)) ⟨g + 3, 5, none⟩ (.slice A' n' c')) = W3 at *
      clear u0 v0 s0 u1 v1 s1 u2 v2 s2 u3 v3 s3 u4 v4 s4 u5 v5 s5 f0 h0 f1 h1 f2 h2 f3 h3 f4 h4 f5 h5
      have u0 : W3.cell? ⟨g + 2, 0, none⟩ = some (.int .i64 q.k) := z2.cell 0 rfl; have u1 : W3.cell? ⟨g + 2, 1, none⟩ = some (strV q.nm) := z2.cell 1 rfl; have u2 : W3.cell? ⟨g + 2, 2, none⟩ = some (strV q.to) := z2.cell 2 rfl; have u3 : W3.cell? ⟨g + 2, 3, none⟩ = some (.int .i64 q.h.pos) := z2.cell 3 rfl; have u4 : W3.cell? ⟨g + 2, 4, none⟩ = some (.slice D m k) := z2.cell 4 rfl; have u5 : W3.cell? ⟨g + 2, 5, none⟩ = some (.slice D' m' k') := z2.cell 5 rfl
      have v0 : W3.cell? ⟨g + 3, 0, none⟩ = some (.int .i64 p.k) := z3.cell 0 rfl; have v1 : W3.cell? ⟨g + 3, 1, none⟩ = some (strV q.to) := z3.cell 1 rfl; have v2 : W3.cell? ⟨g + 3, 2, none⟩ = some (strV p.to) := z3.cell 2 rfl; have v3 : W3.cell? ⟨g + 3, 3, none⟩ = some (.int .i64 p.h.pos) := z3.cell 3 rfl; have v4 : W3.cell? ⟨g + 3, 4, none⟩ = some (.slice A n c) := z3.cell 4 rfl; have v5 : W3.cell? ⟨g + 3, 5, none⟩ = some (.slice A' n' c') := z3.cell 5 rfl
      refine bodyPost_ret (v := .tuple #[.agg #[.int .i64 q.k, strV q.nm, strV q.to, .int .i64 q.h.pos, .slice D m k, .slice D' m' k'], .agg #[.int .i64 p.k, strV q.to, strV p.to, .int .i64 p.h.pos, .slice A n c, .slice A' n' c'], .bool true]) (by simp [results, Try.results56, go_sem, u0, v0, u1, v1, u2, v2, u3, v3, u4, v4, u5, v5]) rfl ?_
      have hW : Below w.heap.size w W3 := by rw [HGS.out]; exact hb6
      rw [HS.out]; exact ppEndE_some hW
    have HN : Hid (passP p q = none) := Lib.hid (passP_n HBA.out H3.out ho hi)
    have c1 : (p.k == 2) = false ∨ ((p.k == 2) = true ∧ lq = false) ∨ ((p.k == 2) = true ∧ lq = true ∧ (q.nm == p.to) = false) := by
      by_cases h1 : p.k = 2
      · cases lq with
        | false => exact .inr (.inl ⟨by simpa using h1, rfl⟩)
        | true =>
          have h2 : q.k = 3 ∨ q.k = 4 := by have := HLQ.out; simpa using this
          exact .inr (.inr ⟨by simpa using h1, rfl, by simpa using fun h => ho ⟨h1, h2, h⟩⟩)
      · exact .inl (by simpa using h1)
    have c2 : (q.k == 2) = false ∨ ((q.k == 2) = true ∧ lp = false) ∨ ((q.k == 2) = true ∧ lp = true ∧ (p.nm == q.nm) = false) := by
      by_cases h1 : q.k = 2
      · cases lp with
        | false => exact .inr (.inl ⟨by simpa using h1, rfl⟩)
        | true =>
          have h2 : p.k = 3 ∨ p.k = 4 := by have := HLP.out; simpa using this
          exact .inr (.inr ⟨by simpa using h1, rfl, by simpa using fun h => hi ⟨h1, h2, h⟩⟩)
      · exact .inl (by simpa using h1)
    clear ho hi
    rcases c1 with c1 | ⟨c1, rfl⟩ | ⟨c1, rfl, c3⟩
    all_goals
      rcases c2 with c2 | ⟨c2, rfl⟩ | ⟨c2, rfl, c4⟩
      all_goals
        go_wp2_with fail
        go_region
        go_wp2_with fail
        obtain ⟨z2, z3⟩ := two_set6 HB2w5.out HB3w5.out (by omega) (.int .i64 0) (strV []) (strV []) (.int .i64 0) (.slice none 0 0) (.slice none 0 0) (.int .i64 0) (strV []) (strV []) (.int .i64 0) (.slice none 0 0) (.slice none 0 0)
        have hb6 := below_drewN (below_set12 (b := g + 2) (b' := g + 3) HWw5.out (by omega) (by omega) (.int .i64 0) (strV []) (strV []) (.int .i64 0) (.slice none 0 0) (.slice none 0 0) (.int .i64 0) (strV []) (strV []) (.int .i64 0) (.slice none 0 0) (.slice none 0 0)) 1
        have z2 := z2.drewN 1; have z3 := z3.drewN 1
        have hdr : ∀ W : World, W.drewN 1 = W.drew := fun _ => rfl
        rw [hdr] at hb6 z2 z3
        generalize World.drew (World.setCell (World.setCell (World.setCell (World.setCell (World.setCell (World.setCell (World.setCell (World.setCell (World.setCell (World.setCell (World.setCell (World.setCell w5 ⟨g + 2, 0, none⟩ (.int .i64 0)) ⟨g + 2, 1, none⟩ (strV [])) ⟨g + 2, 2, none⟩ (strV [])) ⟨g + 2, 3, none⟩ (.int .i64 0)) ⟨g + 2, 4, none⟩ (.slice none 0 0)) ⟨g + 2, 5, none⟩ (.slice none 0 0)) ⟨g + 3, 0, none⟩ (.int .i64 0)) ⟨g + 3, 1, none⟩ (strV [])) ⟨g + 3, 2, none⟩ (strV [])) ⟨g + 3, 3, none⟩ (.int .i64 0)) ⟨g + 3, 4, none⟩ (.slice none 0 0)) ⟨g + 3, 5, none⟩ (.slice none 0 0)) = W3 at *
        clear u0 v0 s0 u1 v1 s1 u2 v2 s2 u3 v3 s3 u4 v4 s4 u5 v5 s5 f0 h0 f1 h1 f2 h2 f3 h3 f4 h4 f5 h5
        have u0 : W3.cell? ⟨g + 2, 0, none⟩ = some (.int .i64 0) := z2.cell 0 rfl; have u1 : W3.cell? ⟨g + 2, 1, none⟩ = some (strV []) := z2.cell 1 rfl; have u2 : W3.cell? ⟨g + 2, 2, none⟩ = some (strV []) := z2.cell 2 rfl; have u3 : W3.cell? ⟨g + 2, 3, none⟩ = some (.int .i64 0) := z2.cell 3 rfl; have u4 : W3.cell? ⟨g + 2, 4, none⟩ = some (.slice none 0 0) := z2.cell 4 rfl; have u5 : W3.cell? ⟨g + 2, 5, none⟩ = some (.slice none 0 0) := z2.cell 5 rfl
        have v0 : W3.cell? ⟨g + 3, 0, none⟩ = some (.int .i64 0) := z3.cell 0 rfl; have v1 : W3.cell? ⟨g + 3, 1, none⟩ = some (strV []) := z3.cell 1 rfl; have v2 : W3.cell? ⟨g + 3, 2, none⟩ = some (strV []) := z3.cell 2 rfl; have v3 : W3.cell? ⟨g + 3, 3, none⟩ = some (.int .i64 0) := z3.cell 3 rfl; have v4 : W3.cell? ⟨g + 3, 4, none⟩ = some (.slice none 0 0) := z3.cell 4 rfl; have v5 : W3.cell? ⟨g + 3, 5, none⟩ = some (.slice none 0 0) := z3.cell 5 rfl
        refine bodyPost_ret (v := .tuple #[.agg #[.int .i64 0, strV [], strV [], .int .i64 0, .slice none 0 0, .slice none 0 0], .agg #[.int .i64 0, strV [], strV [], .int .i64 0, .slice none 0 0, .slice none 0 0], .bool false]) (by simp [results, Try.results56, go_sem, u0, v0, u1, v1, u2, v2, u3, v3, u4, v4, u5, v5]) rfl ?_
        have hW : Below w.heap.size w W3 := by rw [HGS.out]; exact hb6
        exact ppEndE_none HN.out hW

theorem refPassP (A : Option Addr) (n c : Nat) (A' : Option Addr) (n' c' : Nat) (D : Option Addr) (m k : Nat) (D' : Option Addr) (m' k' : Nat) (p q x y : Ch) (w : World) (b : Bool) (hl : n ≤ 1000 ∧ n' ≤ 1000) (gl : m ≤ 1000 ∧ m' ≤ 1000)
    (hv : PV w w.heap.size A n c A' n' c' p) (gv : PV w w.heap.size D m k D' m' k' q) (ho : outP (passP p q) = (x, y)) (hb : (passP p q).isSome = b) :
    Calls Try.prog 56 #[prV p.k p.nm p.to p.h.pos A n c A' n' c', prV q.k q.nm q.to q.h.pos D m k D' m' k'] w (PPEnd w x y b) :=
  (refPassE A n c A' n' c' D m k D' m' k' p q w hl gl hv gv).mono fun e w' h => h.end_ hl gl hv gv ho hb

end Pr
end Go.Proofs.Ytbiiabfhngdeiaa
