/-
  What package patch's Apply returns (walk).
-/
import Derived.Test.YtbiiabfhngdeiaaPnAll
set_option maxRecDepth 100000
namespace Go.Proofs.Ytbiiabfhngdeiaa
open Go.RowKit
set_option linter.unusedVariables false
set_option linter.unusedSimpArgs false
namespace Pn
open Tx Df Sq Hk Tr Pr Fl

set_option maxHeartbeats 1000000 in
theorem ApplyN (K L : Nat) (A0 : Option Addr) (n0 c0 : Nat) (A : Option Addr) (n c : Nat) (t : TR) (l : List Nm) (w : World) (R : Int × TR) (ht : Most t K L) (hK : K ≤ 2000) (hL : L ≤ 2000) (hn0 : t.length = n0) (hn : l.length = n) (hle : n ≤ 1000) (hT : (allN l).length ≤ 200) (hl : Lt (allN l)) (hR0 : RdT w w.heap.size A0 t) (hR : RdN w w.heap.size A l) (hD : doN t l = R) :
    Calls Try.prog 18 #[.slice A0 n0 c0, .slice A n c] w (DoEnd w R) := by
  have HR := Lib.hid hR; have HN := Lib.hid hn; have HL := Lib.hid hl; have HT := Lib.hid hT; have HM := Lib.hid ht; have HR0 := Lib.hid hR0; have HN0 := Lib.hid hn0; have HD := Lib.hid hD
  clear hR hn hl hT ht hR0 hn0 hD
  go_enter Try.func18, Try.ntmps18
  go_wp2_with fail
  refine (AllN A n c l w HN.out (by omega) (by have := HT.out; omega) HL.out HR.out).mono ?_
  rintro e w1 ⟨A1, c1, rfl, hc1, hr1, hb1⟩
  obtain ⟨m, hm⟩ : ∃ m, (allN l).length = m := ⟨_, rfl⟩
  rw [hm] at hc1 ⊢
  have HR1 := Lib.hid (hr1.mono fun b (hb : w.heap.size ≤ b ∧ b < w1.heap.size) => hb.2); have HB1 := Lib.hid hb1; have HMM := Lib.hid hm
  clear hc1 hr1 hb1 hm
  go_wp2_with fail
  refine (ApplyL K L A0 n0 c0 A1 m c1 t (allN l) w1 R HM.out (by have := HT.out; have := HMM.out; omega) (by have := HT.out; have := HMM.out; omega) HN0.out HMM.out HL.out (HR0.out.mv HB1.out) HR1.out HD.out).mono ?_
  rintro e w2 ⟨B, k, d, rfl, h1, h2, h3, h4⟩
  have H1 := Lib.hid h1; have H2 := Lib.hid h2; have H3 := Lib.hid h3; have HB := Lib.hid (below_mv HB1.out h4)
  clear h1 h2 h3 h4
  go_wp2
  go_ret2
  exact ⟨B, k, d, rfl, H1.out, H2.out, H3.out, HB.out⟩

end Pn
end Go.Proofs.Ytbiiabfhngdeiaa
