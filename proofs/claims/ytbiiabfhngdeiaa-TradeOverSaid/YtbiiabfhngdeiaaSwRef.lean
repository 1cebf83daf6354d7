/-
  What the document's own Pass of layer 6 returns (walk): the same two hunks as the program's, or nothing.
-/
import Derived.Test.YtbiiabfhngdeiaaGW
import Derived.Test.YtbiiabfhngdeiaaGH
set_option maxRecDepth 100000
namespace Go.Proofs.Ytbiiabfhngdeiaa
open Go.RowKit
set_option linter.unusedVariables false
namespace Sw
open Tx Df Hk

/-- How a call ends that tells the lines that are handed in, as they are. -/
def PassEndE (A : Option Addr) (n c : Nat) (A' : Option Addr) (n' c' : Nat) (D : Option Addr) (m k : Nat) (D' : Option Addr) (m' k' : Nat) (w : World) (o : Option (HU × HU)) (e : Ending) (w' : World) : Prop :=
  (∀ z, o = some z → e = .returned (.tuple #[hkV z.1.pos D m k D' m' k', hkV z.2.pos A n c A' n' c', .bool true])) ∧
  (o = none → e = .returned (.tuple #[hkV 0 none 0 0 none 0 0, hkV 0 none 0 0 none 0 0, .bool false])) ∧ Below w.heap.size w w'
section
variable {A A' D D' : Option Addr} {n c n' c' m k m' k' : Nat} {w w' : World} {o : Option (HU × HU)} {e : Ending}
theorem passEndE_none (ho : o = none) (hb : Below w.heap.size w w') : PassEndE A n c A' n' c' D m k D' m' k' w o (.returned (.tuple #[hkV 0 none 0 0 none 0 0, hkV 0 none 0 0 none 0 0, .bool false])) w' := by
  subst ho
  exact ⟨fun z h => (by cases h), fun _ => rfl, hb⟩
theorem passEndE_some {x y : HU} (hb : Below w.heap.size w w') : PassEndE A n c A' n' c' D m k D' m' k' w (some (x, y)) (.returned (.tuple #[hkV x.pos D m k D' m' k', hkV y.pos A n c A' n' c', .bool true])) w' :=
  ⟨fun z h => (by injection h with h; subst h; rfl), fun h => (by cases h), hb⟩
theorem PassEndE.end_ {B : Nat} {p q : HU} (h : PassEndE A n c A' n' c' D m k D' m' k' w (passH p q) e w') (hB : B ≤ w.heap.size) (hv : HV w B A n c A' n' c' p) (gv : HV w B D m k D' m' k' q) : PassEnd w (passH p q) e w' := by
  obtain ⟨h1, h2, hb⟩ := h
  cases ho : passH p q with
  | none => rw [h2 ho]; exact passEnd_none rfl hb
  | some z =>
    have e1 := h1 z ho
    obtain ⟨_, b1, b2, b3, b4⟩ := pass_moves (x := z.1) (y := z.2) (passH_may (z := z) ho).2.2.1
    obtain ⟨a1, a2⟩ := pass_pos (x := z.1) (y := z.2) (passH_may (z := z) ho).2.2.1 (mayH_pos (passH_may ho).1).1 (mayH_pos (passH_may ho).2.1).1
    have l1 := (passH_may ho).2.2.2.1; have l2 := (passH_may ho).2.2.2.2
    have hv' := (hv.below (hb.mono hB)).up (Nat.le_trans hB hb.size); have gv' := (gv.below (hb.mono hB)).up (Nat.le_trans hB hb.size)
    refine ⟨D, m, k, D', m', k', A, n, c, A', n', c', e1, ?_, ?_, hb⟩
    · exact ⟨by show z.1.old.length = m; rw [b1]; exact gv.l, by show z.1.new.length = m'; rw [b2]; exact gv.l', gv.k, gv.k', gv.m, gv.m', by show RdS _ _ _ z.1.old; rw [b1]; exact gv'.r, by show RdS _ _ _ z.1.new; rw [b2]; exact gv'.r', ⟨by show _ ≤ z.1.pos; omega, by show z.1.pos ≤ _; omega⟩⟩
    · exact ⟨by show z.2.old.length = n; rw [b3]; exact hv.l, by show z.2.new.length = n'; rw [b4]; exact hv.l', hv.k, hv.k', hv.m, hv.m', by show RdS _ _ _ z.2.old; rw [b3]; exact hv'.r, by show RdS _ _ _ z.2.new; rw [b4]; exact hv'.r', ⟨by show _ ≤ z.2.pos; omega, by show z.2.pos ≤ _; omega⟩⟩
end

set_option maxHeartbeats 4000000 in
theorem refPassE (A : Option Addr) (n c : Nat) (A' : Option Addr) (n' c' : Nat) (D : Option Addr) (m k : Nat) (D' : Option Addr) (m' k' B : Nat) (p q : HU) (w : World) (hB : B ≤ w.heap.size) (hn : n ≤ 1000) (hn' : n' ≤ 1000) (hm : m ≤ 1000) (hm' : m' ≤ 1000)
    (hv : HV w B A n c A' n' c' p) (gv : HV w B D m k D' m' k' q) (sp : ∀ x ∈ p.old, x.length ≤ maxLen) (sp' : ∀ x ∈ p.new, x.length ≤ maxLen) (sq : ∀ x ∈ q.old, x.length ≤ maxLen) (sq' : ∀ x ∈ q.new, x.length ≤ maxLen) :
    Calls Try.prog 69 #[hkV p.pos A n c A' n' c', hkV q.pos D m k D' m' k'] w (PassEndE A n c A' n' c' D m k D' m' k' w (passH p q)) := by
  have HV0 := Lib.hid hv; have GV0 := Lib.hid gv; have SP := Lib.hid sp; have SP' := Lib.hid sp'; have SQ := Lib.hid sq; have SQ' := Lib.hid sq'
  clear sp sp' sq sq'
  go_enter Try.func69, Try.ntmps69
  go_wp2_with fail
  have hw0 : Below w.heap.size w (((((w.alloc (.cells #[.int .i64 p.pos, .slice A n c, .slice A' n' c'] 49)).alloc (.cells #[.int .i64 q.pos, .slice D m k, .slice D' m' k'] 49)).alloc (.cells #[.int .i64 0, .slice none 0 0, .slice none 0 0] 49)).alloc (.cells #[.int .i64 0, .slice none 0 0, .slice none 0 0] 49)).alloc (.cells #[.int .i64 0, .slice none 0 0, .slice none 0 0] 49)) := (((((Below.refl _ _).alloc (Nat.le_refl _) _).alloc (by simp) _).alloc (by simp; omega) _).alloc (by simp; omega) _).alloc (by simp; omega) _
  have b0 := ((((Blk.new w 49 #[.int .i64 p.pos, .slice A n c, .slice A' n' c']).alloc (.cells #[.int .i64 q.pos, .slice D m k, .slice D' m' k'] 49)).alloc (.cells #[.int .i64 0, .slice none 0 0, .slice none 0 0] 49)).alloc (.cells #[.int .i64 0, .slice none 0 0, .slice none 0 0] 49)).alloc (.cells #[.int .i64 0, .slice none 0 0, .slice none 0 0] 49)
  have b1 := (((Blk.new (w.alloc (.cells #[.int .i64 p.pos, .slice A n c, .slice A' n' c'] 49)) 49 #[.int .i64 q.pos, .slice D m k, .slice D' m' k']).alloc (.cells #[.int .i64 0, .slice none 0 0, .slice none 0 0] 49)).alloc (.cells #[.int .i64 0, .slice none 0 0, .slice none 0 0] 49)).alloc (.cells #[.int .i64 0, .slice none 0 0, .slice none 0 0] 49)
  have b2 := ((Blk.new ((w.alloc (.cells #[.int .i64 p.pos, .slice A n c, .slice A' n' c'] 49)).alloc (.cells #[.int .i64 q.pos, .slice D m k, .slice D' m' k'] 49)) 49 #[.int .i64 0, .slice none 0 0, .slice none 0 0]).alloc (.cells #[.int .i64 0, .slice none 0 0, .slice none 0 0] 49)).alloc (.cells #[.int .i64 0, .slice none 0 0, .slice none 0 0] 49)
  have b3 := (Blk.new (((w.alloc (.cells #[.int .i64 p.pos, .slice A n c, .slice A' n' c'] 49)).alloc (.cells #[.int .i64 q.pos, .slice D m k, .slice D' m' k'] 49)).alloc (.cells #[.int .i64 0, .slice none 0 0, .slice none 0 0] 49)) 49 #[.int .i64 0, .slice none 0 0, .slice none 0 0]).alloc (.cells #[.int .i64 0, .slice none 0 0, .slice none 0 0] 49)
  have b4 := Blk.new ((((w.alloc (.cells #[.int .i64 p.pos, .slice A n c, .slice A' n' c'] 49)).alloc (.cells #[.int .i64 q.pos, .slice D m k, .slice D' m' k'] 49)).alloc (.cells #[.int .i64 0, .slice none 0 0, .slice none 0 0] 49)).alloc (.cells #[.int .i64 0, .slice none 0 0, .slice none 0 0] 49)) 49 #[.int .i64 0, .slice none 0 0, .slice none 0 0]
  simp only [World.size_alloc] at b1 b2 b3 b4
  generalize (((((w.alloc (.cells #[.int .i64 p.pos, .slice A n c, .slice A' n' c'] 49)).alloc (.cells #[.int .i64 q.pos, .slice D m k, .slice D' m' k'] 49)).alloc (.cells #[.int .i64 0, .slice none 0 0, .slice none 0 0] 49)).alloc (.cells #[.int .i64 0, .slice none 0 0, .slice none 0 0] 49)).alloc (.cells #[.int .i64 0, .slice none 0 0, .slice none 0 0] 49)) = w0 at *
  clear hv gv
  obtain ⟨g, hgs⟩ : ∃ g, w.heap.size = g := ⟨_, rfl⟩
  rw [hgs] at hw0 b0 b1 b2 b3 b4 ⊢
  rw [show g + 1 + 1 = g + 2 from rfl] at b2 b3 b4 ⊢
  rw [show g + 2 + 1 = g + 3 from rfl] at b3 b4 ⊢
  rw [show g + 3 + 1 = g + 4 from rfl] at b4 ⊢
  have HGS := Lib.hid hgs; clear hgs
  refine (refMay A n c A' n' c' B p w0 (Nat.le_trans hB hw0.size) (HV0.out.below (hw0.mono (by rw [← HGS.out]; exact hB))) SP.out SP'.out).mono ?_
  rintro e w1 ⟨rfl, h1⟩
  have b0 := b0.below h1 b0.lt; have b1 := b1.below h1 b1.lt; have b2 := b2.below h1 b2.lt; have b3 := b3.below h1 b3.lt; have b4 := b4.below h1 b4.lt
  have hw1 := hw0.trans (h1.mono (by rw [← HGS.out]; exact hw0.size))
  clear h1 hw0
  have y0 : w1.cell? ⟨g + 1, 0, none⟩ = some (.int .i64 q.pos) := b1.cell 0 rfl; have y1 : w1.cell? ⟨g + 1, 1, none⟩ = some (.slice D m k) := b1.cell 1 rfl; have y2 : w1.cell? ⟨g + 1, 2, none⟩ = some (.slice D' m' k') := b1.cell 2 rfl
  go_wp2_with fail
  refine (refMay D m k D' m' k' B q w1 (Nat.le_trans hB hw1.size) (GV0.out.below (hw1.mono (by rw [← HGS.out]; exact hB))) SQ.out SQ'.out).mono ?_
  rintro e w2 ⟨rfl, h1⟩
  clear y0 y1 y2
  have b0 := b0.below h1 b0.lt; have b1 := b1.below h1 b1.lt; have b2 := b2.below h1 b2.lt; have b3 := b3.below h1 b3.lt; have b4 := b4.below h1 b4.lt
  have hw2 := hw1.trans (h1.mono (by rw [← HGS.out]; exact hw1.size))
  clear h1 hw1
  have x0 : w2.cell? ⟨g, 0, none⟩ = some (.int .i64 p.pos) := b0.cell 0 rfl; have x1 : w2.cell? ⟨g, 1, none⟩ = some (.slice A n c) := b0.cell 1 rfl; have x2 : w2.cell? ⟨g, 2, none⟩ = some (.slice A' n' c') := b0.cell 2 rfl
  have y0 : w2.cell? ⟨g + 1, 0, none⟩ = some (.int .i64 q.pos) := b1.cell 0 rfl; have y1 : w2.cell? ⟨g + 1, 1, none⟩ = some (.slice D m k) := b1.cell 1 rfl; have y2 : w2.cell? ⟨g + 1, 2, none⟩ = some (.slice D' m' k') := b1.cell 2 rfl
  have q20 : w2.cell? ⟨g + 2, 0, none⟩ = some (.int .i64 0) := b2.cell 0 rfl; have q21 : w2.cell? ⟨g + 2, 1, none⟩ = some (.slice none 0 0) := b2.cell 1 rfl; have q22 : w2.cell? ⟨g + 2, 2, none⟩ = some (.slice none 0 0) := b2.cell 2 rfl
  have q30 : w2.cell? ⟨g + 3, 0, none⟩ = some (.int .i64 0) := b3.cell 0 rfl; have q31 : w2.cell? ⟨g + 3, 1, none⟩ = some (.slice none 0 0) := b3.cell 1 rfl; have q32 : w2.cell? ⟨g + 3, 2, none⟩ = some (.slice none 0 0) := b3.cell 2 rfl
  have q40 : w2.cell? ⟨g + 4, 0, none⟩ = some (.int .i64 0) := b4.cell 0 rfl; have q41 : w2.cell? ⟨g + 4, 1, none⟩ = some (.slice none 0 0) := b4.cell 1 rfl; have q42 : w2.cell? ⟨g + 4, 2, none⟩ = some (.slice none 0 0) := b4.cell 2 rfl
  have f00 := b0.frozen 0; have f10 := b1.frozen 0; have f20 := b2.frozen 0; have f21 := b2.frozen 1; have f22 := b2.frozen 2; have f30 := b3.frozen 0; have f31 := b3.frozen 1; have f32 := b3.frozen 2
  have HW2 := Lib.hid hw2; have HB0 := Lib.hid b0; have HB1 := Lib.hid b1; have HB2 := Lib.hid b2; have HB3 := Lib.hid b3; have HB4 := Lib.hid b4
  clear b0 b1 b2 b3 b4 hw2
  cases hmp : mayH p with
  | false =>
    have HN := Lib.hid (passH_no1 (q := q) hmp)
    clear hmp
    generalize mayH q = b
    go_wp2_with fail
    go_region
    go_wp2_with fail
    obtain ⟨z2, z3⟩ := two_set HB2.out HB3.out (by omega) (.int .i64 (0)) (.slice none 0 0) (.slice none 0 0) (.int .i64 (0)) (.slice none 0 0) (.slice none 0 0)
    have hb6 := below_drewN (below_set6 (b := g + 2) (b' := g + 3) HW2.out (by omega) (by omega) (.int .i64 (0)) (.slice none 0 0) (.slice none 0 0) (.int .i64 (0)) (.slice none 0 0) (.slice none 0 0)) 1
    have z2 := z2.drewN 1; have z3 := z3.drewN 1
    have hdr : ∀ W : World, W.drewN 1 = W.drew := fun _ => rfl
    rw [hdr] at hb6 z2 z3
    generalize World.drew (((((World.setCell w2 ⟨g + 2, 0, none⟩ (.int .i64 (0))).setCell ⟨g + 2, 1, none⟩ (.slice none 0 0)).setCell ⟨g + 2, 2, none⟩ (.slice none 0 0)).setCell ⟨g + 3, 0, none⟩ (.int .i64 (0))).setCell ⟨g + 3, 1, none⟩ (.slice none 0 0) |>.setCell ⟨g + 3, 2, none⟩ (.slice none 0 0)) = W3 at *
    clear q20 q21 q22 q30 q31 q32
    have q20 : W3.cell? ⟨g + 2, 0, none⟩ = some (.int .i64 (0)) := z2.cell 0 rfl; have q21 : W3.cell? ⟨g + 2, 1, none⟩ = some (.slice none 0 0) := z2.cell 1 rfl; have q22 : W3.cell? ⟨g + 2, 2, none⟩ = some (.slice none 0 0) := z2.cell 2 rfl
    have q30 : W3.cell? ⟨g + 3, 0, none⟩ = some (.int .i64 (0)) := z3.cell 0 rfl; have q31 : W3.cell? ⟨g + 3, 1, none⟩ = some (.slice none 0 0) := z3.cell 1 rfl; have q32 : W3.cell? ⟨g + 3, 2, none⟩ = some (.slice none 0 0) := z3.cell 2 rfl
    refine bodyPost_ret (v := .tuple #[hkV (0) none 0 0 none 0 0, hkV (0) none 0 0 none 0 0, .bool false]) (by simp [results, Try.results69, go_sem, q20, q21, q22, q30, q31, q32]) rfl ?_
    exact passEndE_none HN.out (by rw [HGS.out]; exact hb6)
  | true =>
  have HMP := Lib.hid hmp; clear hmp
  cases hmq : mayH q with
  | false =>
    have HN := Lib.hid (passH_no2 (p := p) hmq)
    clear hmq
    go_wp2_with fail
    go_region
    go_wp2_with fail
    obtain ⟨z2, z3⟩ := two_set HB2.out HB3.out (by omega) (.int .i64 (0)) (.slice none 0 0) (.slice none 0 0) (.int .i64 (0)) (.slice none 0 0) (.slice none 0 0)
    have hb6 := below_drewN (below_set6 (b := g + 2) (b' := g + 3) HW2.out (by omega) (by omega) (.int .i64 (0)) (.slice none 0 0) (.slice none 0 0) (.int .i64 (0)) (.slice none 0 0) (.slice none 0 0)) 1
    have z2 := z2.drewN 1; have z3 := z3.drewN 1
    have hdr : ∀ W : World, W.drewN 1 = W.drew := fun _ => rfl
    rw [hdr] at hb6 z2 z3
    generalize World.drew (((((World.setCell w2 ⟨g + 2, 0, none⟩ (.int .i64 (0))).setCell ⟨g + 2, 1, none⟩ (.slice none 0 0)).setCell ⟨g + 2, 2, none⟩ (.slice none 0 0)).setCell ⟨g + 3, 0, none⟩ (.int .i64 (0))).setCell ⟨g + 3, 1, none⟩ (.slice none 0 0) |>.setCell ⟨g + 3, 2, none⟩ (.slice none 0 0)) = W3 at *
    clear q20 q21 q22 q30 q31 q32
    have q20 : W3.cell? ⟨g + 2, 0, none⟩ = some (.int .i64 (0)) := z2.cell 0 rfl; have q21 : W3.cell? ⟨g + 2, 1, none⟩ = some (.slice none 0 0) := z2.cell 1 rfl; have q22 : W3.cell? ⟨g + 2, 2, none⟩ = some (.slice none 0 0) := z2.cell 2 rfl
    have q30 : W3.cell? ⟨g + 3, 0, none⟩ = some (.int .i64 (0)) := z3.cell 0 rfl; have q31 : W3.cell? ⟨g + 3, 1, none⟩ = some (.slice none 0 0) := z3.cell 1 rfl; have q32 : W3.cell? ⟨g + 3, 2, none⟩ = some (.slice none 0 0) := z3.cell 2 rfl
    refine bodyPost_ret (v := .tuple #[hkV (0) none 0 0 none 0 0, hkV (0) none 0 0 none 0 0, .bool false]) (by simp [results, Try.results69, go_sem, q20, q21, q22, q30, q31, q32]) rfl ?_
    exact passEndE_none HN.out (by rw [HGS.out]; exact hb6)
  | true =>
  have HMQ := Lib.hid hmq; clear hmq
  have PB0 := Lib.hid (mayH_pos HMP.out); have PB1 := Lib.hid (mayH_pos HMQ.out)
  obtain ⟨p0, p1⟩ := mayH_pos HMP.out
  obtain ⟨q0, q1⟩ := mayH_pos HMQ.out
  by_cases o1 : p.pos + n' < q.pos
  · by_cases o2 : q.pos - n' + n ≤ 1048576
    · have HN := Lib.hid (passH_open1 HV0.out.l HV0.out.l' HMP.out HMQ.out o1 o2 p1)
      go_wp2_with fail
      have c0 : Blk (w2.setCell ⟨g + 1, 0, none⟩ (.int .i64 (q.pos - n' + n))) (g + 1) 49 #[.int .i64 (q.pos - n' + n), .slice D m k, .slice D' m' k'] := HB1.out.set 0 _
      have c1 : Blk (w2.setCell ⟨g + 1, 0, none⟩ (.int .i64 (q.pos - n' + n))) (g) 49 #[.int .i64 (p.pos), .slice A n c, .slice A' n' c'] := HB0.out.set_ne (by omega) 0 _
      have c2 : Blk (w2.setCell ⟨g + 1, 0, none⟩ (.int .i64 (q.pos - n' + n))) (g + 2) 49 #[.int .i64 0, .slice none 0 0, .slice none 0 0] := HB2.out.set_ne (by omega) 0 _
      have c3 : Blk (w2.setCell ⟨g + 1, 0, none⟩ (.int .i64 (q.pos - n' + n))) (g + 3) 49 #[.int .i64 0, .slice none 0 0, .slice none 0 0] := HB3.out.set_ne (by omega) 0 _
      have c4 : Blk (w2.setCell ⟨g + 1, 0, none⟩ (.int .i64 (q.pos - n' + n))) (g + 4) 49 #[.int .i64 0, .slice none 0 0, .slice none 0 0] := HB4.out.set_ne (by omega) 0 _
      have hw5 := HW2.out.setCell (p := ⟨g + 1, 0, none⟩) (by show g ≤ g + 1; omega) (.int .i64 (q.pos - n' + n))
      generalize w2.setCell ⟨g + 1, 0, none⟩ (.int .i64 (q.pos - n' + n)) = w5 at *
      clear x0 x1 x2 y0 y1 y2 q20 q21 q22 q30 q31 q32 q40 q41 q42 f00 f10 f20 f21 f22 f30 f31 f32
      have x0 : w5.cell? ⟨g, 0, none⟩ = some (.int .i64 (p.pos)) := c1.cell 0 rfl; have x1 : w5.cell? ⟨g, 1, none⟩ = some (.slice A n c) := c1.cell 1 rfl; have x2 : w5.cell? ⟨g, 2, none⟩ = some (.slice A' n' c') := c1.cell 2 rfl
      have y0 : w5.cell? ⟨g + 1, 0, none⟩ = some (.int .i64 (q.pos - n' + n)) := c0.cell 0 rfl; have y1 : w5.cell? ⟨g + 1, 1, none⟩ = some (.slice D m k) := c0.cell 1 rfl; have y2 : w5.cell? ⟨g + 1, 2, none⟩ = some (.slice D' m' k') := c0.cell 2 rfl
      have q20 : w5.cell? ⟨g + 2, 0, none⟩ = some (.int .i64 0) := c2.cell 0 rfl; have q21 : w5.cell? ⟨g + 2, 1, none⟩ = some (.slice none 0 0) := c2.cell 1 rfl; have q22 : w5.cell? ⟨g + 2, 2, none⟩ = some (.slice none 0 0) := c2.cell 2 rfl
      have q30 : w5.cell? ⟨g + 3, 0, none⟩ = some (.int .i64 0) := c3.cell 0 rfl; have q31 : w5.cell? ⟨g + 3, 1, none⟩ = some (.slice none 0 0) := c3.cell 1 rfl; have q32 : w5.cell? ⟨g + 3, 2, none⟩ = some (.slice none 0 0) := c3.cell 2 rfl
      have q40 : w5.cell? ⟨g + 4, 0, none⟩ = some (.int .i64 0) := c4.cell 0 rfl; have q41 : w5.cell? ⟨g + 4, 1, none⟩ = some (.slice none 0 0) := c4.cell 1 rfl; have q42 : w5.cell? ⟨g + 4, 2, none⟩ = some (.slice none 0 0) := c4.cell 2 rfl
      have f20 := c2.frozen 0; have f21 := c2.frozen 1; have f22 := c2.frozen 2; have f30 := c3.frozen 0; have f31 := c3.frozen 1; have f32 := c3.frozen 2
      go_region
      go_wp2_with fail
      obtain ⟨z2, z3⟩ := two_set c2 c3 (by omega) (.int .i64 (q.pos - n' + n)) (.slice D m k) (.slice D' m' k') (.int .i64 (p.pos)) (.slice A n c) (.slice A' n' c')
      have hb6 := below_drewN (below_set6 (b := g + 2) (b' := g + 3) hw5 (by omega) (by omega) (.int .i64 (q.pos - n' + n)) (.slice D m k) (.slice D' m' k') (.int .i64 (p.pos)) (.slice A n c) (.slice A' n' c')) 1
      have z2 := z2.drewN 1; have z3 := z3.drewN 1
      have hdr : ∀ W : World, W.drewN 1 = W.drew := fun _ => rfl
      rw [hdr] at hb6 z2 z3
      generalize World.drew (((((World.setCell w5 ⟨g + 2, 0, none⟩ (.int .i64 (q.pos - n' + n))).setCell ⟨g + 2, 1, none⟩ (.slice D m k)).setCell ⟨g + 2, 2, none⟩ (.slice D' m' k')).setCell ⟨g + 3, 0, none⟩ (.int .i64 (p.pos))).setCell ⟨g + 3, 1, none⟩ (.slice A n c) |>.setCell ⟨g + 3, 2, none⟩ (.slice A' n' c')) = W3 at *
      clear q20 q21 q22 q30 q31 q32
      have q20 : W3.cell? ⟨g + 2, 0, none⟩ = some (.int .i64 (q.pos - n' + n)) := z2.cell 0 rfl; have q21 : W3.cell? ⟨g + 2, 1, none⟩ = some (.slice D m k) := z2.cell 1 rfl; have q22 : W3.cell? ⟨g + 2, 2, none⟩ = some (.slice D' m' k') := z2.cell 2 rfl
      have q30 : W3.cell? ⟨g + 3, 0, none⟩ = some (.int .i64 (p.pos)) := z3.cell 0 rfl; have q31 : W3.cell? ⟨g + 3, 1, none⟩ = some (.slice A n c) := z3.cell 1 rfl; have q32 : W3.cell? ⟨g + 3, 2, none⟩ = some (.slice A' n' c') := z3.cell 2 rfl
      refine bodyPost_ret (v := .tuple #[hkV (q.pos - n' + n) D m k D' m' k', hkV (p.pos) A n c A' n' c', .bool true]) (by simp [results, Try.results69, go_sem, q20, q21, q22, q30, q31, q32]) rfl ?_
      have hW : Below w.heap.size w W3 := by rw [HGS.out]; exact hb6
      rw [HN.out]
      exact passEndE_some hW
    · have HN := Lib.hid (passH_shut HV0.out.l HV0.out.l' GV0.out.l GV0.out.l' (fun h => o2 h.2.1) (fun h => by have := h.1; omega))
      go_wp2_with fail
      have c0 : Blk (w2.setCell ⟨g + 1, 0, none⟩ (.int .i64 (q.pos - n' + n))) (g + 1) 49 #[.int .i64 (q.pos - n' + n), .slice D m k, .slice D' m' k'] := HB1.out.set 0 _
      have c1 : Blk (w2.setCell ⟨g + 1, 0, none⟩ (.int .i64 (q.pos - n' + n))) (g) 49 #[.int .i64 (p.pos), .slice A n c, .slice A' n' c'] := HB0.out.set_ne (by omega) 0 _
      have c2 : Blk (w2.setCell ⟨g + 1, 0, none⟩ (.int .i64 (q.pos - n' + n))) (g + 2) 49 #[.int .i64 0, .slice none 0 0, .slice none 0 0] := HB2.out.set_ne (by omega) 0 _
      have c3 : Blk (w2.setCell ⟨g + 1, 0, none⟩ (.int .i64 (q.pos - n' + n))) (g + 3) 49 #[.int .i64 0, .slice none 0 0, .slice none 0 0] := HB3.out.set_ne (by omega) 0 _
      have c4 : Blk (w2.setCell ⟨g + 1, 0, none⟩ (.int .i64 (q.pos - n' + n))) (g + 4) 49 #[.int .i64 0, .slice none 0 0, .slice none 0 0] := HB4.out.set_ne (by omega) 0 _
      have hw5 := HW2.out.setCell (p := ⟨g + 1, 0, none⟩) (by show g ≤ g + 1; omega) (.int .i64 (q.pos - n' + n))
      generalize w2.setCell ⟨g + 1, 0, none⟩ (.int .i64 (q.pos - n' + n)) = w5 at *
      clear x0 x1 x2 y0 y1 y2 q20 q21 q22 q30 q31 q32 q40 q41 q42 f00 f10 f20 f21 f22 f30 f31 f32
      have x0 : w5.cell? ⟨g, 0, none⟩ = some (.int .i64 (p.pos)) := c1.cell 0 rfl; have x1 : w5.cell? ⟨g, 1, none⟩ = some (.slice A n c) := c1.cell 1 rfl; have x2 : w5.cell? ⟨g, 2, none⟩ = some (.slice A' n' c') := c1.cell 2 rfl
      have y0 : w5.cell? ⟨g + 1, 0, none⟩ = some (.int .i64 (q.pos - n' + n)) := c0.cell 0 rfl; have y1 : w5.cell? ⟨g + 1, 1, none⟩ = some (.slice D m k) := c0.cell 1 rfl; have y2 : w5.cell? ⟨g + 1, 2, none⟩ = some (.slice D' m' k') := c0.cell 2 rfl
      have q20 : w5.cell? ⟨g + 2, 0, none⟩ = some (.int .i64 0) := c2.cell 0 rfl; have q21 : w5.cell? ⟨g + 2, 1, none⟩ = some (.slice none 0 0) := c2.cell 1 rfl; have q22 : w5.cell? ⟨g + 2, 2, none⟩ = some (.slice none 0 0) := c2.cell 2 rfl
      have q30 : w5.cell? ⟨g + 3, 0, none⟩ = some (.int .i64 0) := c3.cell 0 rfl; have q31 : w5.cell? ⟨g + 3, 1, none⟩ = some (.slice none 0 0) := c3.cell 1 rfl; have q32 : w5.cell? ⟨g + 3, 2, none⟩ = some (.slice none 0 0) := c3.cell 2 rfl
      have q40 : w5.cell? ⟨g + 4, 0, none⟩ = some (.int .i64 0) := c4.cell 0 rfl; have q41 : w5.cell? ⟨g + 4, 1, none⟩ = some (.slice none 0 0) := c4.cell 1 rfl; have q42 : w5.cell? ⟨g + 4, 2, none⟩ = some (.slice none 0 0) := c4.cell 2 rfl
      have f20 := c2.frozen 0; have f21 := c2.frozen 1; have f22 := c2.frozen 2; have f30 := c3.frozen 0; have f31 := c3.frozen 1; have f32 := c3.frozen 2
      go_region
      go_wp2_with fail
      obtain ⟨z2, z3⟩ := two_set c2 c3 (by omega) (.int .i64 (0)) (.slice none 0 0) (.slice none 0 0) (.int .i64 (0)) (.slice none 0 0) (.slice none 0 0)
      have hb6 := below_drewN (below_set6 (b := g + 2) (b' := g + 3) hw5 (by omega) (by omega) (.int .i64 (0)) (.slice none 0 0) (.slice none 0 0) (.int .i64 (0)) (.slice none 0 0) (.slice none 0 0)) 1
      have z2 := z2.drewN 1; have z3 := z3.drewN 1
      have hdr : ∀ W : World, W.drewN 1 = W.drew := fun _ => rfl
      rw [hdr] at hb6 z2 z3
      generalize World.drew (((((World.setCell w5 ⟨g + 2, 0, none⟩ (.int .i64 (0))).setCell ⟨g + 2, 1, none⟩ (.slice none 0 0)).setCell ⟨g + 2, 2, none⟩ (.slice none 0 0)).setCell ⟨g + 3, 0, none⟩ (.int .i64 (0))).setCell ⟨g + 3, 1, none⟩ (.slice none 0 0) |>.setCell ⟨g + 3, 2, none⟩ (.slice none 0 0)) = W3 at *
      clear q20 q21 q22 q30 q31 q32
      have q20 : W3.cell? ⟨g + 2, 0, none⟩ = some (.int .i64 (0)) := z2.cell 0 rfl; have q21 : W3.cell? ⟨g + 2, 1, none⟩ = some (.slice none 0 0) := z2.cell 1 rfl; have q22 : W3.cell? ⟨g + 2, 2, none⟩ = some (.slice none 0 0) := z2.cell 2 rfl
      have q30 : W3.cell? ⟨g + 3, 0, none⟩ = some (.int .i64 (0)) := z3.cell 0 rfl; have q31 : W3.cell? ⟨g + 3, 1, none⟩ = some (.slice none 0 0) := z3.cell 1 rfl; have q32 : W3.cell? ⟨g + 3, 2, none⟩ = some (.slice none 0 0) := z3.cell 2 rfl
      refine bodyPost_ret (v := .tuple #[hkV (0) none 0 0 none 0 0, hkV (0) none 0 0 none 0 0, .bool false]) (by simp [results, Try.results69, go_sem, q20, q21, q22, q30, q31, q32]) rfl ?_
      exact passEndE_none HN.out (by rw [HGS.out]; exact hb6)
  · by_cases o1' : q.pos + m < p.pos
    · by_cases o2 : p.pos - m + m' ≤ 1048576
      · have HN := Lib.hid (passH_open2 GV0.out.l GV0.out.l' HMP.out HMQ.out o1' q1 o2)
        go_wp2_with fail
        have c0 : Blk (w2.setCell ⟨g, 0, none⟩ (.int .i64 (p.pos - m + m'))) (g) 49 #[.int .i64 (p.pos - m + m'), .slice A n c, .slice A' n' c'] := HB0.out.set 0 _
        have c1 : Blk (w2.setCell ⟨g, 0, none⟩ (.int .i64 (p.pos - m + m'))) (g + 1) 49 #[.int .i64 (q.pos), .slice D m k, .slice D' m' k'] := HB1.out.set_ne (by omega) 0 _
        have c2 : Blk (w2.setCell ⟨g, 0, none⟩ (.int .i64 (p.pos - m + m'))) (g + 2) 49 #[.int .i64 0, .slice none 0 0, .slice none 0 0] := HB2.out.set_ne (by omega) 0 _
        have c3 : Blk (w2.setCell ⟨g, 0, none⟩ (.int .i64 (p.pos - m + m'))) (g + 3) 49 #[.int .i64 0, .slice none 0 0, .slice none 0 0] := HB3.out.set_ne (by omega) 0 _
        have c4 : Blk (w2.setCell ⟨g, 0, none⟩ (.int .i64 (p.pos - m + m'))) (g + 4) 49 #[.int .i64 0, .slice none 0 0, .slice none 0 0] := HB4.out.set_ne (by omega) 0 _
        have hw5 := HW2.out.setCell (p := ⟨g, 0, none⟩) (by show g ≤ g; omega) (.int .i64 (p.pos - m + m'))
        generalize w2.setCell ⟨g, 0, none⟩ (.int .i64 (p.pos - m + m')) = w5 at *
        clear x0 x1 x2 y0 y1 y2 q20 q21 q22 q30 q31 q32 q40 q41 q42 f00 f10 f20 f21 f22 f30 f31 f32
        have x0 : w5.cell? ⟨g, 0, none⟩ = some (.int .i64 (p.pos - m + m')) := c0.cell 0 rfl; have x1 : w5.cell? ⟨g, 1, none⟩ = some (.slice A n c) := c0.cell 1 rfl; have x2 : w5.cell? ⟨g, 2, none⟩ = some (.slice A' n' c') := c0.cell 2 rfl
        have y0 : w5.cell? ⟨g + 1, 0, none⟩ = some (.int .i64 (q.pos)) := c1.cell 0 rfl; have y1 : w5.cell? ⟨g + 1, 1, none⟩ = some (.slice D m k) := c1.cell 1 rfl; have y2 : w5.cell? ⟨g + 1, 2, none⟩ = some (.slice D' m' k') := c1.cell 2 rfl
        have q20 : w5.cell? ⟨g + 2, 0, none⟩ = some (.int .i64 0) := c2.cell 0 rfl; have q21 : w5.cell? ⟨g + 2, 1, none⟩ = some (.slice none 0 0) := c2.cell 1 rfl; have q22 : w5.cell? ⟨g + 2, 2, none⟩ = some (.slice none 0 0) := c2.cell 2 rfl
        have q30 : w5.cell? ⟨g + 3, 0, none⟩ = some (.int .i64 0) := c3.cell 0 rfl; have q31 : w5.cell? ⟨g + 3, 1, none⟩ = some (.slice none 0 0) := c3.cell 1 rfl; have q32 : w5.cell? ⟨g + 3, 2, none⟩ = some (.slice none 0 0) := c3.cell 2 rfl
        have q40 : w5.cell? ⟨g + 4, 0, none⟩ = some (.int .i64 0) := c4.cell 0 rfl; have q41 : w5.cell? ⟨g + 4, 1, none⟩ = some (.slice none 0 0) := c4.cell 1 rfl; have q42 : w5.cell? ⟨g + 4, 2, none⟩ = some (.slice none 0 0) := c4.cell 2 rfl
        have f20 := c2.frozen 0; have f21 := c2.frozen 1; have f22 := c2.frozen 2; have f30 := c3.frozen 0; have f31 := c3.frozen 1; have f32 := c3.frozen 2
        go_region
        go_wp2_with fail
        obtain ⟨z2, z3⟩ := two_set c2 c3 (by omega) (.int .i64 (q.pos)) (.slice D m k) (.slice D' m' k') (.int .i64 (p.pos - m + m')) (.slice A n c) (.slice A' n' c')
        have hb6 := below_drewN (below_set6 (b := g + 2) (b' := g + 3) hw5 (by omega) (by omega) (.int .i64 (q.pos)) (.slice D m k) (.slice D' m' k') (.int .i64 (p.pos - m + m')) (.slice A n c) (.slice A' n' c')) 1
        have z2 := z2.drewN 1; have z3 := z3.drewN 1
        have hdr : ∀ W : World, W.drewN 1 = W.drew := fun _ => rfl
        rw [hdr] at hb6 z2 z3
        generalize World.drew (((((World.setCell w5 ⟨g + 2, 0, none⟩ (.int .i64 (q.pos))).setCell ⟨g + 2, 1, none⟩ (.slice D m k)).setCell ⟨g + 2, 2, none⟩ (.slice D' m' k')).setCell ⟨g + 3, 0, none⟩ (.int .i64 (p.pos - m + m'))).setCell ⟨g + 3, 1, none⟩ (.slice A n c) |>.setCell ⟨g + 3, 2, none⟩ (.slice A' n' c')) = W3 at *
        clear q20 q21 q22 q30 q31 q32
        have q20 : W3.cell? ⟨g + 2, 0, none⟩ = some (.int .i64 (q.pos)) := z2.cell 0 rfl; have q21 : W3.cell? ⟨g + 2, 1, none⟩ = some (.slice D m k) := z2.cell 1 rfl; have q22 : W3.cell? ⟨g + 2, 2, none⟩ = some (.slice D' m' k') := z2.cell 2 rfl
        have q30 : W3.cell? ⟨g + 3, 0, none⟩ = some (.int .i64 (p.pos - m + m')) := z3.cell 0 rfl; have q31 : W3.cell? ⟨g + 3, 1, none⟩ = some (.slice A n c) := z3.cell 1 rfl; have q32 : W3.cell? ⟨g + 3, 2, none⟩ = some (.slice A' n' c') := z3.cell 2 rfl
        refine bodyPost_ret (v := .tuple #[hkV (q.pos) D m k D' m' k', hkV (p.pos - m + m') A n c A' n' c', .bool true]) (by simp [results, Try.results69, go_sem, q20, q21, q22, q30, q31, q32]) rfl ?_
        have hW : Below w.heap.size w W3 := by rw [HGS.out]; exact hb6
        rw [HN.out]
        exact passEndE_some hW
      · have HN := Lib.hid (passH_shut HV0.out.l HV0.out.l' GV0.out.l GV0.out.l' (fun h => o1 h.1) (fun h => o2 h.2.2))
        go_wp2_with fail
        have c0 : Blk (w2.setCell ⟨g, 0, none⟩ (.int .i64 (p.pos - m + m'))) (g) 49 #[.int .i64 (p.pos - m + m'), .slice A n c, .slice A' n' c'] := HB0.out.set 0 _
        have c1 : Blk (w2.setCell ⟨g, 0, none⟩ (.int .i64 (p.pos - m + m'))) (g + 1) 49 #[.int .i64 (q.pos), .slice D m k, .slice D' m' k'] := HB1.out.set_ne (by omega) 0 _
        have c2 : Blk (w2.setCell ⟨g, 0, none⟩ (.int .i64 (p.pos - m + m'))) (g + 2) 49 #[.int .i64 0, .slice none 0 0, .slice none 0 0] := HB2.out.set_ne (by omega) 0 _
        have c3 : Blk (w2.setCell ⟨g, 0, none⟩ (.int .i64 (p.pos - m + m'))) (g + 3) 49 #[.int .i64 0, .slice none 0 0, .slice none 0 0] := HB3.out.set_ne (by omega) 0 _
        have c4 : Blk (w2.setCell ⟨g, 0, none⟩ (.int .i64 (p.pos - m + m'))) (g + 4) 49 #[.int .i64 0, .slice none 0 0, .slice none 0 0] := HB4.out.set_ne (by omega) 0 _
        have hw5 := HW2.out.setCell (p := ⟨g, 0, none⟩) (by show g ≤ g; omega) (.int .i64 (p.pos - m + m'))
        generalize w2.setCell ⟨g, 0, none⟩ (.int .i64 (p.pos - m + m')) = w5 at *
        clear x0 x1 x2 y0 y1 y2 q20 q21 q22 q30 q31 q32 q40 q41 q42 f00 f10 f20 f21 f22 f30 f31 f32
        have x0 : w5.cell? ⟨g, 0, none⟩ = some (.int .i64 (p.pos - m + m')) := c0.cell 0 rfl; have x1 : w5.cell? ⟨g, 1, none⟩ = some (.slice A n c) := c0.cell 1 rfl; have x2 : w5.cell? ⟨g, 2, none⟩ = some (.slice A' n' c') := c0.cell 2 rfl
        have y0 : w5.cell? ⟨g + 1, 0, none⟩ = some (.int .i64 (q.pos)) := c1.cell 0 rfl; have y1 : w5.cell? ⟨g + 1, 1, none⟩ = some (.slice D m k) := c1.cell 1 rfl; have y2 : w5.cell? ⟨g + 1, 2, none⟩ = some (.slice D' m' k') := c1.cell 2 rfl
        have q20 : w5.cell? ⟨g + 2, 0, none⟩ = some (.int .i64 0) := c2.cell 0 rfl; have q21 : w5.cell? ⟨g + 2, 1, none⟩ = some (.slice none 0 0) := c2.cell 1 rfl; have q22 : w5.cell? ⟨g + 2, 2, none⟩ = some (.slice none 0 0) := c2.cell 2 rfl
        have q30 : w5.cell? ⟨g + 3, 0, none⟩ = some (.int .i64 0) := c3.cell 0 rfl; have q31 : w5.cell? ⟨g + 3, 1, none⟩ = some (.slice none 0 0) := c3.cell 1 rfl; have q32 : w5.cell? ⟨g + 3, 2, none⟩ = some (.slice none 0 0) := c3.cell 2 rfl
        have q40 : w5.cell? ⟨g + 4, 0, none⟩ = some (.int .i64 0) := c4.cell 0 rfl; have q41 : w5.cell? ⟨g + 4, 1, none⟩ = some (.slice none 0 0) := c4.cell 1 rfl; have q42 : w5.cell? ⟨g + 4, 2, none⟩ = some (.slice none 0 0) := c4.cell 2 rfl
        have f20 := c2.frozen 0; have f21 := c2.frozen 1; have f22 := c2.frozen 2; have f30 := c3.frozen 0; have f31 := c3.frozen 1; have f32 := c3.frozen 2
        go_region
        go_wp2_with fail
        obtain ⟨z2, z3⟩ := two_set c2 c3 (by omega) (.int .i64 (0)) (.slice none 0 0) (.slice none 0 0) (.int .i64 (0)) (.slice none 0 0) (.slice none 0 0)
        have hb6 := below_drewN (below_set6 (b := g + 2) (b' := g + 3) hw5 (by omega) (by omega) (.int .i64 (0)) (.slice none 0 0) (.slice none 0 0) (.int .i64 (0)) (.slice none 0 0) (.slice none 0 0)) 1
        have z2 := z2.drewN 1; have z3 := z3.drewN 1
        have hdr : ∀ W : World, W.drewN 1 = W.drew := fun _ => rfl
        rw [hdr] at hb6 z2 z3
        generalize World.drew (((((World.setCell w5 ⟨g + 2, 0, none⟩ (.int .i64 (0))).setCell ⟨g + 2, 1, none⟩ (.slice none 0 0)).setCell ⟨g + 2, 2, none⟩ (.slice none 0 0)).setCell ⟨g + 3, 0, none⟩ (.int .i64 (0))).setCell ⟨g + 3, 1, none⟩ (.slice none 0 0) |>.setCell ⟨g + 3, 2, none⟩ (.slice none 0 0)) = W3 at *
        clear q20 q21 q22 q30 q31 q32
        have q20 : W3.cell? ⟨g + 2, 0, none⟩ = some (.int .i64 (0)) := z2.cell 0 rfl; have q21 : W3.cell? ⟨g + 2, 1, none⟩ = some (.slice none 0 0) := z2.cell 1 rfl; have q22 : W3.cell? ⟨g + 2, 2, none⟩ = some (.slice none 0 0) := z2.cell 2 rfl
        have q30 : W3.cell? ⟨g + 3, 0, none⟩ = some (.int .i64 (0)) := z3.cell 0 rfl; have q31 : W3.cell? ⟨g + 3, 1, none⟩ = some (.slice none 0 0) := z3.cell 1 rfl; have q32 : W3.cell? ⟨g + 3, 2, none⟩ = some (.slice none 0 0) := z3.cell 2 rfl
        refine bodyPost_ret (v := .tuple #[hkV (0) none 0 0 none 0 0, hkV (0) none 0 0 none 0 0, .bool false]) (by simp [results, Try.results69, go_sem, q20, q21, q22, q30, q31, q32]) rfl ?_
        exact passEndE_none HN.out (by rw [HGS.out]; exact hb6)
    · have HN := Lib.hid (passH_shut HV0.out.l HV0.out.l' GV0.out.l GV0.out.l' (fun h => o1 h.1) (fun h => o1' h.1))
      go_wp2_with fail
      go_region
      go_wp2_with fail
      obtain ⟨z2, z3⟩ := two_set HB2.out HB3.out (by omega) (.int .i64 (0)) (.slice none 0 0) (.slice none 0 0) (.int .i64 (0)) (.slice none 0 0) (.slice none 0 0)
      have hb6 := below_drewN (below_set6 (b := g + 2) (b' := g + 3) HW2.out (by omega) (by omega) (.int .i64 (0)) (.slice none 0 0) (.slice none 0 0) (.int .i64 (0)) (.slice none 0 0) (.slice none 0 0)) 1
      have z2 := z2.drewN 1; have z3 := z3.drewN 1
      have hdr : ∀ W : World, W.drewN 1 = W.drew := fun _ => rfl
      rw [hdr] at hb6 z2 z3
      generalize World.drew (((((World.setCell w2 ⟨g + 2, 0, none⟩ (.int .i64 (0))).setCell ⟨g + 2, 1, none⟩ (.slice none 0 0)).setCell ⟨g + 2, 2, none⟩ (.slice none 0 0)).setCell ⟨g + 3, 0, none⟩ (.int .i64 (0))).setCell ⟨g + 3, 1, none⟩ (.slice none 0 0) |>.setCell ⟨g + 3, 2, none⟩ (.slice none 0 0)) = W3 at *
      clear q20 q21 q22 q30 q31 q32
      have q20 : W3.cell? ⟨g + 2, 0, none⟩ = some (.int .i64 (0)) := z2.cell 0 rfl; have q21 : W3.cell? ⟨g + 2, 1, none⟩ = some (.slice none 0 0) := z2.cell 1 rfl; have q22 : W3.cell? ⟨g + 2, 2, none⟩ = some (.slice none 0 0) := z2.cell 2 rfl
      have q30 : W3.cell? ⟨g + 3, 0, none⟩ = some (.int .i64 (0)) := z3.cell 0 rfl; have q31 : W3.cell? ⟨g + 3, 1, none⟩ = some (.slice none 0 0) := z3.cell 1 rfl; have q32 : W3.cell? ⟨g + 3, 2, none⟩ = some (.slice none 0 0) := z3.cell 2 rfl
      refine bodyPost_ret (v := .tuple #[hkV (0) none 0 0 none 0 0, hkV (0) none 0 0 none 0 0, .bool false]) (by simp [results, Try.results69, go_sem, q20, q21, q22, q30, q31, q32]) rfl ?_
      exact passEndE_none HN.out (by rw [HGS.out]; exact hb6)

theorem refPass (A : Option Addr) (n c : Nat) (A' : Option Addr) (n' c' : Nat) (D : Option Addr) (m k : Nat) (D' : Option Addr) (m' k' B : Nat) (p q : HU) (w : World) (hB : B ≤ w.heap.size) (hn : n ≤ 1000) (hn' : n' ≤ 1000) (hm : m ≤ 1000) (hm' : m' ≤ 1000)
    (hv : HV w B A n c A' n' c' p) (gv : HV w B D m k D' m' k' q) (sp : ∀ x ∈ p.old, x.length ≤ maxLen) (sp' : ∀ x ∈ p.new, x.length ≤ maxLen) (sq : ∀ x ∈ q.old, x.length ≤ maxLen) (sq' : ∀ x ∈ q.new, x.length ≤ maxLen) :
    Calls Try.prog 69 #[hkV p.pos A n c A' n' c', hkV q.pos D m k D' m' k'] w (PassEnd w (passH p q)) :=
  (refPassE A n c A' n' c' D m k D' m' k' B p q w hB hn hn' hm hm' hv gv sp sp' sq sq').mono fun e w' h => h.end_ hB hv gv

end Sw
end Go.Proofs.Ytbiiabfhngdeiaa
