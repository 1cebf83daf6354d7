/-
  Words for the statements of layer 5: plain laws of Apply and of the tests.
-/
import Derived.Test.YtfjllohhjpiphaaHkApply
import Derived.Test.YtfjllohhjpiphaaGQ
set_option maxRecDepth 100000
namespace Go.Proofs.Ytfjllohhjpiphaa
open Go.RowKit
set_option linter.unusedVariables false
namespace Hk
open Tx Df Sq

theorem mayH_turn (h : HU) : mayH (turn h) = mayH h := by
  unfold mayH turn
  simp only
  rw [Bool.and_comm (allMay h.new)]
theorem sameH_self (h : HU) : sameH h h = true := by simp [sameH]
theorem applyE_cases (l : List (List UInt8)) (h : HU) : (applyE l h = 1 ∧ applyL l h = [] ∧ mayH h = false) ∨ (applyE l h = 5 ∧ applyL l h = [] ∧ mayH h = true ∧ has l h.pos h.old = false) ∨ (applyE l h = 0 ∧ applyL l h = swp l h.pos.toNat h.old.length h.new ∧ mayH h = true ∧ has l h.pos h.old = true) := by
  unfold applyE applyL
  cases mayH h <;> cases has l h.pos h.old <;> simp
theorem apply_done {l : List (List UInt8)} {h : HU} (he : applyE l h = 0) : done l h = some (applyL l h) := by
  rcases applyE_cases l h with ⟨h1, _⟩ | ⟨h1, _⟩ | ⟨_, h2, _, h4⟩
  · omega
  · omega
  · rw [done_yes h4, h2]
theorem done_apply {l m : List (List UInt8)} {h : HU} (hm : mayH h = true) (hd : done l h = some m) : applyE l h = 0 ∧ applyL l h = m := by
  obtain ⟨h1, h2⟩ := done_some hd
  unfold applyE applyL
  simp [hm, h1, h2]
theorem apply_back {l : List (List UInt8)} {h : HU} (he : applyE l h = 0) : applyE (applyL l h) (turn h) = 0 ∧ applyL (applyL l h) (turn h) = l := by
  have hm : mayH h = true := by
    rcases applyE_cases l h with ⟨h1, _⟩ | ⟨h1, _⟩ | ⟨_, _, h3, _⟩
    · omega
    · omega
    · exact h3
  exact done_apply (by rw [mayH_turn]; exact hm) (done_back (apply_done he))

theorem may_hunk {a b l m : List (List UInt8)} {h : HU} (ha : allMay a = true) (hb : allMay b = true) (hd : done l h = some m) (hl : l.length ≤ 200) (hm : m.length ≤ 200) (ho : ∀ y ∈ h.old, y ∈ a) (hn : ∀ y ∈ h.new, y ∈ b) : mayH h = true ∧ h.old.length ≤ 200 ∧ h.new.length ≤ 200 := by
  obtain ⟨p1, p2⟩ := done_pos hd
  have q1 := (has_len (done_len hd).1).2
  unfold allMay at ha hb
  rw [Bool.and_eq_true, List.all_eq_true] at ha hb
  refine ⟨?_, by omega, by omega⟩
  unfold mayH allMay
  simp only [Bool.and_eq_true, decide_eq_true_eq, List.all_eq_true]
  exact ⟨⟨p1, by omega⟩, ⟨by omega, fun y hy => ha.2 y (ho y hy)⟩, by omega, fun y hy => hb.2 y (hn y hy)⟩

theorem light_all {ls : List (List UInt8)} {k : Nat} (h : light ls k = true) : ∀ x ∈ ls, x.length ≤ maxLen := by
  simp only [light, Bool.and_eq_true, List.all_eq_true, decide_eq_true_eq] at h
  intro x hx
  have := h.2 x hx
  unfold maxLen
  omega

end Hk
end Go.Proofs.Ytfjllohhjpiphaa
