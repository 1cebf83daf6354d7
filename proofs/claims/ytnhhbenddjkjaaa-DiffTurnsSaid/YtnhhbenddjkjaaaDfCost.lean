/-
  What Cost of layer 4 returns (walk).
-/
import Derived.Test.YtnhhbenddjkjaaaDfMem
import Derived.Test.YtnhhbenddjkjaaaQLight
namespace Go.Proofs.Ytnhhbenddjkjaaa
open Go.RowKit
set_option linter.unusedVariables false
namespace Df
open Tx

def NumEnd (w : World) (n : Int) (e : Ending) (w' : World) : Prop := e = .returned (.int .i64 n) ∧ Below w.heap.size w w'

set_option maxHeartbeats 800000 in
theorem Cost (A : Option Addr) (c n B : Nat) (es : List E) (w : World) (hn : es.length = n) (hnm : n ≤ maxLen) (hB : B ≤ w.heap.size) (hR : RdE w B A es) :
    Calls Try.prog 20 #[.slice A n c] w (NumEnd w (wrap64 (cost es))) := by
  unfold maxLen at hnm
  have HN := Lib.hid hn; clear hn
  go_enter Try.func20, Try.ntmps20
  go_wp2
  go_loopw [3, 8] (fun v3 v8 wr => ∃ k : Nat, k ≤ n ∧ v8 = .int .i64 k ∧ v3 = .int .i64 (wrap64 (cost (es.take k))) ∧ Below w.heap.size w wr) (fun _ v8 _ => n - (intOf v8).toNat)
  case atStart => exact ⟨0, Nat.zero_le _, rfl, by rw [List.take_zero, wrap_none], Below.refl _ _⟩
  case round =>
    obtain ⟨k, hk, rfl, rfl, hbr⟩ := hrel
    by_cases hlt : k < n
    · have hkl : k < es.length := by rw [HN.out]; exact hlt
      obtain ⟨a, rfl, hab, hat⟩ := (hR.below (hbr.mono hB)).at_ hkl
      have HT := Lib.hid (take_snoc' hkl)
      generalize es[k] = x at *
      obtain ⟨c0, c1, ⟨A2, c2, h2, h3, h4⟩, hp, ho, hl⟩ := hat
      go_wp2
      go_roundw
      case rel => exact ⟨k + 1, by omega, by go_num, by rw [HT.out, cost_snoc, ← wrap_cost], hbr.alloc hbr.size _⟩
      case measure => simp [intOf]; omega
    · go_wp2
      go_ret
      refine ⟨ret_int ?_, hbr⟩
      rw [List.take_of_length_le (by rw [HN.out]; omega)]

end Df
end Go.Proofs.Ytnhhbenddjkjaaa
