/-
  The example of layer 4 holds (walk).
-/
import Derived.Test.YtnhhbenddjkjaaaDfEdits
import Derived.Test.YtnhhbenddjkjaaaLcWords
namespace Go.Proofs.Ytnhhbenddjkjaaa
open Go.RowKit
set_option linter.unusedVariables false
namespace Df
open Tx Lc

theorem ex_edits : edits ([[97], [98], [99]] : List (List UInt8)) [[97], [120], [99]] = [⟨1, 1, [[120]]⟩] := by
  simp [edits, ends, eds, one, pairs, prs, lcs, mid]
theorem ex_appl : appl ([[97], [98], [99]] : List (List UInt8)) [⟨1, 1, [[120]]⟩] = some [[97], [120], [99]] := by
  rw [← ex_edits]; exact edits_appl _ _
theorem ex_cost : wrap64 (cost ([⟨1, 1, [[120]]⟩] : List E)) = 2 := by simp [cost, wrap64]

set_option maxRecDepth 100000 in
set_option maxHeartbeats 2000000 in
theorem awake (w : World) : Calls Try.prog 11 #[] w fun e w' => e = .returned (.bool true) ∧ Below w.heap.size w w' := by
  go_enter Try.func11, Try.ntmps11
  go_wp2_with fail
  obtain ⟨o0, ho0⟩ : ∃ o : Obj, o = .cells #[.string ⟨#[97]⟩, .string ⟨#[98]⟩, .string ⟨#[99]⟩] 9 (0, 0) := ⟨_, rfl⟩
  obtain ⟨o1, ho1⟩ : ∃ o : Obj, o = .cells #[.string ⟨#[97]⟩, .string ⟨#[120]⟩, .string ⟨#[99]⟩] 9 (0, 0) := ⟨_, rfl⟩
  have r0 : RdS (w.alloc o0) (w.alloc o0).heap.size (some ⟨w.heap.size, 0, none⟩) [[97], [98], [99]] := by subst ho0; exact rd_new w [[97], [98], [99]] (0, 0)
  have r1 : RdS ((w.alloc o0).alloc o1) ((w.alloc o0).alloc o1).heap.size (some ⟨w.heap.size + 1, 0, none⟩) [[97], [120], [99]] := by
    have e1 : (w.alloc o0).heap.size = w.heap.size + 1 := by simp
    subst ho1; rw [← e1]; exact rd_new (w.alloc o0) [[97], [120], [99]] (0, 0)
  have r01 := rd_old r0 (Nat.le_refl _) o1
  have hb0 : Below w.heap.size w ((w.alloc o0).alloc o1) := ((Below.refl _ _).alloc (Nat.le_refl _) _).alloc (by simp) _
  rw [← ho0, ← ho1]
  refine (Edits _ _ 3 3 3 3 _ _ _ _ rfl rfl (Nat.le_refl _) (Nat.le_refl _) (by decide) (by decide) (Nat.le_refl _) r01 r1).mono ?_
  rw [ex_edits]
  rintro e w1 ⟨A, c, rfl, hc, hE, hb1⟩
  have hbw := hb0.trans (hb1.mono hb0.size)
  have r2 : RdS w1 w1.heap.size (some ⟨w.heap.size, 0, none⟩) [[97], [98], [99]] := Rd.up (Rd.below r01 hb1) hb1.size
  clear r0 r1 r01 ho0 ho1 hb1 hb0
  simp only [List.length_cons, List.length_nil] at hc ⊢
  go_wp2_with fail
  refine (Apply _ _ 3 _ 3 1 w1.heap.size [[97], [98], [99]] [⟨1, 1, [[120]]⟩] w1 rfl rfl (Nat.le_refl _) (by decide) (by unfold maxLen; decide) (Nat.le_refl _) r2 hE (by rw [ex_appl]; rintro r ⟨rfl⟩; decide)).mono ?_
  rw [ex_appl]
  rintro e w2 ⟨v, rfl, hA, hb2⟩
  simp only [Option.getD_some, List.length_cons, List.length_nil, List.map_cons, List.map_nil] at hA
  obtain ⟨A2, c2, rfl, hc2, _, hrd, _⟩ := hA
  obtain ⟨a2, rfl, _, hx⟩ := hrd.at_ (k := 1) (by decide)
  have hE2 := hE.below hb2
  obtain ⟨a, rfl, _, hat⟩ := hE2.at_ (k := 0) (by decide)
  obtain ⟨k0, k1, ⟨A3, c3, k2, _, _⟩, _⟩ := hat
  simp only [Nat.zero_mul, add_zero', List.getElem_cons_zero, List.getElem_cons_succ, List.length_cons, List.length_nil] at k0 k1 k2 hx
  have hb12 := hbw.trans (hb2.mono hbw.size)
  have hx' : w2.cell? ⟨a2.block, a2.off + 1, none⟩ = some (.string ⟨#[120]⟩) := hx
  have HE2 := Lib.hid hE2
  clear hrd hE r2 hbw hx hE2
  go_wp2_with fail
  refine (Cost _ _ 1 w1.heap.size [⟨1, 1, [[120]]⟩] w2 rfl (by unfold maxLen; decide) hb2.size HE2.out).mono ?_
  rw [ex_cost]
  rintro e w3 ⟨rfl, hb3⟩
  go_wp2
  go_ret
  exact ⟨rfl, hb12.trans (hb3.mono hb12.size)⟩

end Df
end Go.Proofs.Ytnhhbenddjkjaaa
