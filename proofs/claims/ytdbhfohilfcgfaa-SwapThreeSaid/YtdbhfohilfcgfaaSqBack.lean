/-
  What Swap of layer 2 returns for every lists of lines (walks).
-/
import Derived.Test.YtdbhfohilfcgfaaSqSwap
namespace Go.Proofs.Ytdbhfohilfcgfaa
open Go.RowKit
set_option linter.unusedVariables false
namespace Sq
open Tx

theorem Swap_no (A A' A2 : Option Addr) (cap cap' cap2 n n' n2 B : Nat) (i : Int) (ls ms : List (List UInt8)) (w : World) (hn : ls.length = n) (hn' : ms.length = n') (hc : n ≤ cap) (hnm : n ≤ maxLen) (hnm' : n' ≤ maxLen) (hR : RdS w B A ls) (hR' : RdS w B A' ms) (hh : has ls i ms = false) :
    Calls Try.prog 24 #[.slice A n cap, .int .i64 i, .slice A' n' cap', .slice A2 n2 cap2] w (NoneEnd w) := by
  have H := Lib.hid (swap_no A A' A2 cap cap' cap2 n n' n2 B i ls ms w hn hn' hc hnm hnm' hR hR' hh)
  clear hn hn' hh
  go_enter Try.func24, Try.ntmps24
  go_wp2_with fail
  refine H.out.mono ?_
  rintro e w' ⟨rfl, d, rfl⟩
  go_wp2
  go_ret2
  exact ⟨rfl, _, rfl⟩

theorem Swap_yes (A A' A2 : Option Addr) (cap cap' cap2 n n' n2 B k : Nat) (ls ms ns : List (List UInt8)) (w : World) (hn : ls.length = n) (hn' : ms.length = n') (hn2 : ns.length = n2) (hc : n ≤ cap) (hnm : n ≤ 1000) (hnm' : n' ≤ 1000) (hnm2 : n2 ≤ 1000) (hB : B ≤ w.heap.size)
    (hR : RdS w B A ls) (hR' : RdS w B A' ms) (hR2 : RdS w B A2 ns) (hh : has ls k ms = true) :
    Calls Try.prog 24 #[.slice A n cap, .int .i64 k, .slice A' n' cap', .slice A2 n2 cap2] w (SwapEnd w (swp ls k n' ns)) := by
  have H := Lib.hid (swap_yes A A' A2 cap cap' cap2 n n' n2 B k ls ms ns w hn hn' hn2 hc hnm hnm' hnm2 hB hR hR' hR2 hh)
  clear hn hn' hn2 hh
  go_enter Try.func24, Try.ntmps24
  go_wp2_with fail
  refine H.out.mono ?_
  rintro e w' ⟨v, rfl, hA, hb⟩
  go_wp2
  go_ret2
  exact ⟨v, rfl, hA, hb⟩

end Sq
end Go.Proofs.Ytdbhfohilfcgfaa
