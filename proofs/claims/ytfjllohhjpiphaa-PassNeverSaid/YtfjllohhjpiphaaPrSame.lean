/-
  What the program's own Same and Idle of layer 8 return (walks).
-/
import Derived.Test.YtfjllohhjpiphaaPrRef2
import Derived.Test.YtfjllohhjpiphaaHkLeaf
set_option maxRecDepth 100000
namespace Go.Proofs.Ytfjllohhjpiphaa
open Go.RowKit
set_option linter.unusedVariables false
set_option linter.unusedSimpArgs false
namespace Pr
open Tx Df Sq Hk Tr

set_option maxHeartbeats 2000000 in
theorem SameP (A : Option Addr) (n c : Nat) (A' : Option Addr) (n' c' : Nat) (D : Option Addr) (m e : Nat) (D' : Option Addr) (m' e' : Nat) (p p2 : Ch) (w : World) (b : Bool) (hv : PV w w.heap.size A n c A' n' c' p) (hv2 : PV w w.heap.size D m e D' m' e' p2) (hb : sameP p p2 = b) :
    Calls Try.prog 20 #[prV p.k p.nm p.to p.h.pos A n c A' n' c', prV p2.k p2.nm p2.to p2.h.pos D m e D' m' e'] w (TestEnd w b) := by
  obtain ⟨k, nm, to, h⟩ := p
  obtain ⟨k2, nm2, to2, h2⟩ := p2
  obtain ⟨vh, vk, vn, vt, vs, vs'⟩ := hv
  obtain ⟨uh, uk, un, ut, us, us'⟩ := hv2
  dsimp only at vh vk vn vt vs vs' uh uk un ut us us' ⊢
  obtain ⟨bh, hbh⟩ : ∃ b, sameH h h2 = b := ⟨_, rfl⟩
  have h3 := fun w1 hB hv gv => SameH A n c A' n' c' D m e D' m' e' w.heap.size h h2 w1 hB hv gv
  rw [hbh] at h3
  have hbx : Below w.heap.size w (box2 w k k2 nm to nm2 to2 h.pos h2.pos A n c A' n' c' D m e D' m' e') := ((Below.refl _ _).alloc (Nat.le_refl _) _).alloc (by simp) _
  have HL : Hid (b = (decide (k = k2) && (decide (nm = nm2) && (decide (to = to2) && bh)))) := Lib.hid (by rw [← hb, ← hbh]; rfl)
  have HVH := Lib.hid vh; have HUH := Lib.hid uh; have HBX := Lib.hid hbx; have H3 := Lib.hid h3
  clear vh uh vs vs' us us' hb hbh h3 hbx vn vt un ut
  generalize h.pos = q at *
  generalize h2.pos = q2 at *
  by_cases h1 : k = k2
  · subst h1
    by_cases h2 : nm = nm2
    · subst h2
      by_cases h3 : to = to2
      · subst h3
        go_enter Try.func20, Try.ntmps20
        go_wp2_with fail
        refine (H3.out _ HBX.out.size (HVH.out.below HBX.out) (HUH.out.below HBX.out)).mono ?_
        rintro e1 w1 ⟨rfl, hb1⟩
        have HB01 := Lib.hid (HBX.out.trans (hb1.mono HBX.out.size))
        clear hb1 HBX H3 HVH HUH
        go_wp2
        go_ret
        exact ⟨ret_bool (by rw [HL.out]; simp), HB01.out⟩
      · have e3 : (to == to2) = false := by simpa using h3
        go_enter Try.func20, Try.ntmps20
        go_wp2
        go_ret
        exact ⟨ret_bool (by rw [HL.out]; simp [h3]), HBX.out⟩
    · have e2 : (nm == nm2) = false := by simpa using h2
      go_enter Try.func20, Try.ntmps20
      go_wp2
      go_ret
      exact ⟨ret_bool (by rw [HL.out]; simp [h2]), HBX.out⟩
  · have e1 : (k == k2) = false := by rw [beq_eq_false_iff_ne]; exact h1
    go_enter Try.func20, Try.ntmps20
    go_wp2
    go_ret
    exact ⟨ret_bool (by rw [HL.out]; simp [h1]), HBX.out⟩

end Pr
end Go.Proofs.Ytfjllohhjpiphaa
