/-
  What the document's own Same, Idle and Turn of layer 8 return, and the law's Light (walks).
-/
import Derived.Test.YtfjllohhjpiphaaPrRef
import Derived.Test.YtfjllohhjpiphaaHkLeaf
set_option maxRecDepth 100000
namespace Go.Proofs.Ytfjllohhjpiphaa
open Go.RowKit
set_option linter.unusedVariables false
set_option linter.unusedSimpArgs false
namespace Pr
open Tx Df Sq Hk Tr

def lightP (p : Ch) : Bool := (light p.h.old 300 && light p.h.new 300) && (decide (p.nm.length ≤ 100) && decide (p.to.length ≤ 100))

set_option maxHeartbeats 2000000 in
theorem LightP (A : Option Addr) (n c : Nat) (A' : Option Addr) (n' c' B : Nat) (p : Ch) (w : World) (b : Bool) (hB : B ≤ w.heap.size) (hv : PV w B A n c A' n' c' p) (hb : lightP p = b) :
    Calls Try.prog 12 #[prV p.k p.nm p.to p.h.pos A n c A' n' c'] w (TestEnd w b) := by
  obtain ⟨k, nm, to, h⟩ := p
  obtain ⟨vh, vk, vn, vt, vs, vs'⟩ := hv
  dsimp only at vh vk vn vt vs vs' ⊢
  obtain ⟨bl, hbl⟩ : ∃ b, (light h.old 300 && light h.new 300) = b := ⟨_, rfl⟩
  have h3 := fun w hB hv => LightH A n c A' n' c' B h w hB hv
  rw [hbl] at h3
  have hbx : Below w.heap.size w (box w k nm to h.pos A n c A' n' c') := (Below.refl _ _).alloc (Nat.le_refl _) _
  have HL : Hid (b = (bl && (decide (nm.length ≤ 100) && decide (to.length ≤ 100)))) := Lib.hid (by rw [← hb, ← hbl]; rfl)
  have HVH := Lib.hid vh; have HBX := Lib.hid hbx; have H3 := Lib.hid h3
  obtain ⟨zn, hzn, hzn2⟩ : ∃ z : ByteArray, strV nm = .string z ∧ z.size = nm.length := ⟨_, rfl, size_strV nm⟩
  obtain ⟨zt, hzt, hzt2⟩ : ∃ z : ByteArray, strV to = .string z ∧ z.size = to.length := ⟨_, rfl, size_strV to⟩
  rw [← hzn2] at HL vn
  rw [← hzt2] at HL vt
  clear vh vs vs' hb hbl h3 hbx hzn2 hzt2
  unfold maxLen at vn vt
  unfold box at HBX
  unfold prV
  rw [hzn, hzt] at HBX ⊢
  clear hzn hzt
  generalize h.pos = q at *
  go_enter Try.func12, Try.ntmps12
  go_wp2_with fail
  refine (H3.out _ (Nat.le_trans hB HBX.out.size) (HVH.out.below (HBX.out.mono hB))).mono ?_
  rintro e w1 ⟨rfl, hb1⟩
  have b1 := (Blk.new w 26 #[.int .i64 k, .string zn, .string zt, .int .i64 q, .slice A n c, .slice A' n' c']).below hb1 (by simp)
  have hb01 : Below w.heap.size w w1 := HBX.out.trans (hb1.mono HBX.out.size)
  have HB01 := Lib.hid hb01
  have x1 : w1.cell? ⟨w.heap.size, 1, none⟩ = some (.string zn) := b1.cell 1 rfl
  have x2 : w1.cell? ⟨w.heap.size, 2, none⟩ = some (.string zt) := b1.cell 2 rfl
  clear b1 hb1 hb01 HBX H3 HVH
  cases bl with
  | false =>
    go_wp2
    go_ret
    exact ⟨ret_bool (by rw [HL.out]; rfl), HB01.out⟩
  | true =>
    by_cases h1 : zn.size ≤ 100
    · by_cases h2 : zt.size ≤ 100
      · go_wp2
        go_ret
        exact ⟨ret_bool (by rw [HL.out, decide_eq_true h1, decide_eq_true h2]; simp; omega), HB01.out⟩
      · go_wp2
        go_ret
        exact ⟨ret_bool (by rw [HL.out, decide_eq_true h1, decide_eq_false h2]; simp; omega), HB01.out⟩
    · go_wp2
      go_ret
      exact ⟨ret_bool (by rw [HL.out, decide_eq_false h1]; simp), HB01.out⟩

/-- Two boxes of changes. -/
abbrev box2 (w : World) (k k2 : Int) (nm to nm2 to2 : List UInt8) (q q2 : Int) (A : Option Addr) (n c : Nat) (A' : Option Addr) (n' c' : Nat) (D : Option Addr) (m e : Nat) (D' : Option Addr) (m' e' : Nat) : World :=
  (w.alloc (.cells #[.int .i64 k, strV nm, strV to, .int .i64 q, .slice A n c, .slice A' n' c'] 26)).alloc (.cells #[.int .i64 k2, strV nm2, strV to2, .int .i64 q2, .slice D m e, .slice D' m' e'] 26)

set_option maxHeartbeats 2000000 in
theorem refSameP (A : Option Addr) (n c : Nat) (A' : Option Addr) (n' c' : Nat) (D : Option Addr) (m e : Nat) (D' : Option Addr) (m' e' B : Nat) (p p2 : Ch) (w : World) (b : Bool) (hB : B ≤ w.heap.size) (hv : PV w B A n c A' n' c' p) (hv2 : PV w B D m e D' m' e' p2) (hb : sameP p p2 = b) :
    Calls Try.prog 15 #[prV p.k p.nm p.to p.h.pos A n c A' n' c', prV p2.k p2.nm p2.to p2.h.pos D m e D' m' e'] w (TestEnd w b) := by
  obtain ⟨k, nm, to, h⟩ := p
  obtain ⟨k2, nm2, to2, h2⟩ := p2
  obtain ⟨vh, vk, vn, vt, vs, vs'⟩ := hv
  obtain ⟨uh, uk, un, ut, us, us'⟩ := hv2
  dsimp only at vh vk vn vt vs vs' uh uk un ut us us' ⊢
  obtain ⟨bh, hbh⟩ : ∃ b, sameH h h2 = b := ⟨_, rfl⟩
  have h3 := fun w hB hv gv => refSameH A n c A' n' c' D m e D' m' e' B h h2 w hB hv gv
  rw [hbh] at h3
  have hbx : Below w.heap.size w (box2 w k k2 nm to nm2 to2 h.pos h2.pos A n c A' n' c' D m e D' m' e') := ((Below.refl _ _).alloc (Nat.le_refl _) _).alloc (by simp) _
  have HL : Hid (b = (decide (k = k2) && (decide (nm = nm2) && (decide (to = to2) && bh)))) := Lib.hid (by rw [← hb, ← hbh]; rfl)
  have HVH := Lib.hid vh; have HUH := Lib.hid uh; have HBX := Lib.hid hbx; have H3 := Lib.hid h3
  clear vh uh vs vs' us us' hb hbh h3 hbx vn vt un ut
  generalize h.pos = q at *
  generalize h2.pos = q2 at *
  go_enter Try.func15, Try.ntmps15
  go_wp2_with fail
  refine (H3.out _ (Nat.le_trans hB HBX.out.size) (HVH.out.below (HBX.out.mono hB)) (HUH.out.below (HBX.out.mono hB))).mono ?_
  rintro e1 w1 ⟨rfl, hb1⟩
  have b1 := ((Blk.new w 26 #[.int .i64 k, strV nm, strV to, .int .i64 q, .slice A n c, .slice A' n' c']).alloc (.cells #[.int .i64 k2, strV nm2, strV to2, .int .i64 q2, .slice D m e, .slice D' m' e'] 26)).below hb1 (by simp; omega)
  have b2 := (Blk.new (w.alloc (.cells #[.int .i64 k, strV nm, strV to, .int .i64 q, .slice A n c, .slice A' n' c'] 26)) 26 #[.int .i64 k2, strV nm2, strV to2, .int .i64 q2, .slice D m e, .slice D' m' e']).below hb1 (by simp)
  have hb01 : Below w.heap.size w w1 := HBX.out.trans (hb1.mono HBX.out.size)
  have HB01 := Lib.hid hb01
  have hs1 : (w.alloc (.cells #[.int .i64 k, strV nm, strV to, .int .i64 q, .slice A n c, .slice A' n' c'] 26)).heap.size = w.heap.size + 1 := by simp
  rw [hs1] at b2
  have x0 : w1.cell? ⟨w.heap.size, 0, none⟩ = some (.int .i64 k) := b1.cell 0 rfl
  have x1 : w1.cell? ⟨w.heap.size, 1, none⟩ = some (strV nm) := b1.cell 1 rfl
  have x2 : w1.cell? ⟨w.heap.size, 2, none⟩ = some (strV to) := b1.cell 2 rfl
  have y0 : w1.cell? ⟨w.heap.size + 1, 0, none⟩ = some (.int .i64 k2) := b2.cell 0 rfl
  have y1 : w1.cell? ⟨w.heap.size + 1, 1, none⟩ = some (strV nm2) := b2.cell 1 rfl
  have y2 : w1.cell? ⟨w.heap.size + 1, 2, none⟩ = some (strV to2) := b2.cell 2 rfl
  clear b1 b2 hb1 hb01 HBX H3 HVH HUH
  cases bh with
  | false =>
    go_wp2
    go_ret
    exact ⟨ret_bool (by rw [HL.out]; simp), HB01.out⟩
  | true =>
    by_cases h1 : k = k2
    · subst h1
      by_cases h2 : nm = nm2
      · subst h2
        by_cases h3 : to = to2
        · subst h3
          go_wp2
          go_ret
          exact ⟨ret_bool (by rw [HL.out]; simp), HB01.out⟩
        · have e3 : (to == to2) = false := by simpa using h3
          go_wp2
          go_ret
          exact ⟨ret_bool (by rw [HL.out]; simp [h3]), HB01.out⟩
      · have e2 : (nm == nm2) = false := by simpa using h2
        go_wp2
        go_ret
        exact ⟨ret_bool (by rw [HL.out]; simp [h2]), HB01.out⟩
    · have e1 : (k == k2) = false := by rw [beq_eq_false_iff_ne]; exact h1
      go_wp2
      go_ret
      exact ⟨ret_bool (by rw [HL.out]; simp [h1]), HB01.out⟩

end Pr
end Go.Proofs.Ytfjllohhjpiphaa
