/-
  What package flow's ownLines, ownTree, May, Same and Apply return (walks).
-/
import Derived.Test.YtjhjmfodpnipiaaGreatDoorFlSteps
import Derived.Test.YtjhjmfodpnipiaaGreatDoorPsCode
import Derived.Test.YtjhjmfodpnipiaaGreatDoorFlRef2
import Derived.Test.YtjhjmfodpnipiaaGreatDoorGT
import Derived.Test.YtjhjmfodpnipiaaGreatDoorGQ
set_option maxRecDepth 100000
namespace Go.Proofs.YtjhjmfodpnipiaaGreatDoor
open Go.RowKit
set_option linter.unusedVariables false
set_option linter.unusedSimpArgs false
namespace Fl
open Tx Df Sq Hk Tr Pr

/-- How a copy of lines ends: in memory of its own. -/
def CopyLEnd (w : World) (n : Nat) (ls : List (List UInt8)) (e : Ending) (w' : World) : Prop :=
  ∃ D d, e = .returned (.slice D n d) ∧ n ≤ d ∧ RdS w' w'.heap.size D ls ∧ Hi w.heap.size D ∧ w.grownBy w' none

set_option maxHeartbeats 4000000 in
theorem EqualP (A : Option Addr) (n c : Nat) (A' : Option Addr) (n' c' : Nat) (l u : List Ch) (w : World) (b : Bool) (hn : l.length = n) (hn' : u.length = n') (hle : n ≤ 100000) (hR : RdP w (· < w.heap.size) A l) (hR' : RdP w (· < w.heap.size) A' u) (hb : listP l u = b) :
    Calls Tryz.prog 20 #[.slice A n c, .slice A' n' c', .func (.func 21) #[] #[]] w (BoolEnd w b) := by
  have HR := Lib.hid hR; have HR' := Lib.hid hR'; have HN := Lib.hid hn; have HN' := Lib.hid hn'
  have HB := Lib.hid hb.symm
  clear hR hR' hn hn' hb
  go_enter Tryz.func20, Tryz.ntmps20
  by_cases h0 : n = n'
  · subst h0
    go_wp2
    go_loopw [17] (fun i wr => ∃ k : Nat, k ≤ n ∧ i = .int .i64 (k : Int) ∧ l.take k = u.take k ∧ Below w.heap.size w wr) (fun i _ => n - (intOf i).toNat)
    case atStart => exact ⟨0, Nat.zero_le _, rfl, rfl, Below.refl _ _⟩
    case round =>
      obtain ⟨k, hk, rfl, hall, hbw⟩ := hrel
      have HBW := Lib.hid hbw; have HAL := Lib.hid hall; clear hbw hall
      by_cases hlt : k < n
      · have hki : (k : Int) < (n : Int) := by omega
        obtain ⟨a, x, B, i, j, D, m, d, rfl, hS, hx, c0, c1, c2, c3, c4, c5, c6⟩ := ((HR.out.mv HBW.out).elem (k := k) (by rw [HN.out]; exact hlt))
        obtain ⟨a', y, B', i', j', D', m', d', rfl, hS', hy, g0, g1, g2, g3, g4, g5, g6⟩ := ((HR'.out.mv HBW.out).elem (k := k) (by rw [HN'.out]; exact hlt))
        have HX := Lib.hid hx; have HP := Lib.hid c6.pv; clear hx c6 hS
        have HY := Lib.hid hy; have HQ := Lib.hid g6.pv; clear hy g6 hS'
        obtain ⟨bl, hbl⟩ : ∃ b, sameP x y = b := ⟨_, rfl⟩
        have hba := two_box wr (.cells #[.int .i64 x.k, strV x.nm, strV x.to, .int .i64 x.h.pos, .slice B i j, .slice D m d] 34) (.cells #[.int .i64 y.k, strV y.nm, strV y.to, .int .i64 y.h.pos, .slice B' i' j', .slice D' m' d'] 34)
        have HBA := Lib.hid hba; clear hba
        have e0 := cell_alc (.cells #[.int .i64 x.k, strV x.nm, strV x.to, .int .i64 x.h.pos, .slice B i j, .slice D m d] 34) g0; have e1 := cell_alc (.cells #[.int .i64 x.k, strV x.nm, strV x.to, .int .i64 x.h.pos, .slice B i j, .slice D m d] 34) g1; have e2 := cell_alc (.cells #[.int .i64 x.k, strV x.nm, strV x.to, .int .i64 x.h.pos, .slice B i j, .slice D m d] 34) g2; have e3 := cell_alc (.cells #[.int .i64 x.k, strV x.nm, strV x.to, .int .i64 x.h.pos, .slice B i j, .slice D m d] 34) g3; have e4 := cell_alc (.cells #[.int .i64 x.k, strV x.nm, strV x.to, .int .i64 x.h.pos, .slice B i j, .slice D m d] 34) g4; have e5 := cell_alc (.cells #[.int .i64 x.k, strV x.nm, strV x.to, .int .i64 x.h.pos, .slice B i j, .slice D m d] 34) g5
        clear g0 g1 g2 g3 g4 g5
        go_wp2_with fail
        refine (SameP B i j D m d B' i' j' D' m' d' x y _ bl (HP.out.mv HBA.out) (HQ.out.mv HBA.out) hbl).mono ?_
        rintro e w2 ⟨rfl, hb2⟩
        have HBL := Lib.hid (sameL_take HAL.out HX.out HY.out)
        have hbw2 := below_mv HBW.out (below_mv HBA.out hb2)
        have HBW2 := Lib.hid hbw2; clear hbw2 c0 c1 c2 c3 c4 c5 e0 e1 e2 e3 e4 e5 hb2
        rw [hbl] at HBL
        clear hbl
        cases bl with
        | false =>
          go_wp2
          go_ret
          exact ⟨ret_bool (by rw [HB.out, listP_no (HBL.out.2 (by simp))]), HBW2.out⟩
        | true =>
          go_wp2_with fail
          exact ⟨⟨k + 1, by omega, by go_num, HBL.out.1 (by simp), HBW2.out⟩, by simp [intOf]; omega⟩
      · go_wp2
        go_ret
        refine ⟨ret_bool ?_, HBW.out⟩
        have h1 := HAL.out
        rw [List.take_of_length_le (by rw [HN.out]; omega), List.take_of_length_le (by rw [HN'.out]; omega)] at h1
        rw [HB.out, listP_iff.2 h1]
  · have e0 : ((n : Int) != (n' : Int)) = true := by rw [bne_iff_ne]; omega
    go_wp2
    go_ret
    exact ⟨ret_bool (by rw [HB.out, listP_no (fun e => h0 (by rw [← HN.out, ← HN'.out, e]))]), Below.refl _ _⟩

theorem SameL (A : Option Addr) (n c : Nat) (A' : Option Addr) (n' c' : Nat) (l u : List Ch) (w : World) (b : Bool) (hn : l.length = n) (hn' : u.length = n') (hle : n ≤ 100000) (hR : RdP w (· < w.heap.size) A l) (hR' : RdP w (· < w.heap.size) A' u) (hb : listP l u = b) :
    Calls Tryz.prog 9 #[.slice A n c, .slice A' n' c'] w (BoolEnd w b) := by
  have H := Lib.hid (EqualP A n c A' n' c' l u w b hn hn' hle hR hR' hb)
  clear hn hn' hR hR' hb
  go_enter Tryz.func9, Tryz.ntmps9
  go_wp2_with fail
  refine H.out.mono ?_
  rintro e w1 ⟨rfl, hb⟩
  go_wp2
  go_ret
  exact ⟨rfl, hb⟩

end Fl
end Go.Proofs.YtjhjmfodpnipiaaGreatDoor
