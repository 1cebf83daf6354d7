/-
  What the document's Pairs of layer 3 returns (walk).
-/
import Derived.Test.YtjhjmfodpnipiaaLcRef
set_option maxRecDepth 100000
namespace Go.Proofs.Ytjhjmfodpnipiaa
open Go.RowKit
set_option linter.unusedVariables false
namespace Lc
open Tx Rg

theorem TabM.lt {z n m : Nat} {f : Nat → List Value} {W : World} (h : TabM z n m f W) {i : Nat} (hi : i ≤ n) : z + 1 + i < W.heap.size := ((h.2 i hi).lt (z + 1 + i) rfl).2
theorem TabM.lt0 {z n m : Nat} {f : Nat → List Value} {W : World} (h : TabM z n m f W) : z < W.heap.size := (h.1.lt z rfl).2

/-- At the head of the loop of the document's Pairs. -/
def RefAt (w1 : World) (a b : List (List UInt8)) (n m : Nat) (v6 v7 v8 : Value) (wr : World) : Prop :=
  ∃ (i j : Nat) (dn : List (Nat × Nat)), i ≤ n ∧ j ≤ m ∧ v7 = .int .i64 (i : Int) ∧ v8 = .int .i64 (j : Int) ∧ wr.ownsRow w1.heap.size 103 2 v6 dn.length (cellsP dn) ∧ pairs a b = dn ++ rest a b i j ∧ Below w1.heap.size w1 wr

theorem own_form {W : World} {base size n : Nat} {e : TypeId} {v : Value} {xs : List Value} (h : W.ownsRow base e size v n xs) : ∃ A c, v = .slice A n c := by
  rcases h.2 with ⟨rfl, rfl⟩ | ⟨g, cap, cur, rfl, _⟩
  · exact ⟨none, 0, rfl⟩
  · exact ⟨_, _, rfl⟩
theorem own_drewN {W : World} {base size n : Nat} {e : TypeId} {v : Value} {xs : List Value} (h : W.ownsRow base e size v n xs) (d : Nat) : (W.drewN d).ownsRow base e size v n xs := h

set_option maxRecDepth 100000 in
set_option maxHeartbeats 4000000 in
theorem refPairs (A A' : Option Addr) (c c' n m B : Nat) (a b : List (List UInt8)) (w : World) (hn : a.length = n) (hm : b.length = m) (hln : n ≤ 1000) (hlm : m ≤ 1000) (hB : B ≤ w.heap.size) (hR : RdS w B A a) (hR' : RdS w B A' b) :
    Calls Try.prog 85 #[.slice A n c, .slice A' m c'] w (PairsEnd w (pairs a b)) := by
  obtain ⟨i0, hi, hz0, hz1, hz2⟩ := info_parts info_pair
  have HT := Lib.hid (refTable A A' c c' n m B a b w hn hm hln hlm hB hR hR')
  have hpl : (pairs a b).length ≤ 1000 := by rw [pairs_len]; have := (lcs_le a b).1; omega
  have HPL := Lib.hid hpl; clear hpl
  have HM := Lib.hid hm; clear hm
  have HN := Lib.hid hn; clear hn
  go_enter Try.func85, Try.ntmps85
  go_wp2_with fail
  refine HT.out.mono ?_
  rintro e w1 ⟨rfl, hT, hb⟩
  clear HT
  have hsz := hb.size
  go_wp2
  go_loopw [6, 7, 8] (fun v6 v7 v8 wr => RefAt w1 a b n m v6 v7 v8 wr) (fun _ v7 v8 _ => (n - (intOf v7).toNat) + (m - (intOf v8).toNat))
  case atStart => exact ⟨0, 0, [], Nat.zero_le _, Nat.zero_le _, rfl, rfl, World.ownsRow_nil _ _ _ _, by rw [List.nil_append, rest_zero], Below.refl _ _⟩
  case round =>
    obtain ⟨i, j, dn, hin, hjm, rfl, rfl, hrow, hpr, hbr⟩ := hrel
    obtain ⟨Av, cv, rfl⟩ := own_form hrow
    have HPR := Lib.hid hpr; clear hpr
    have hbw := hb.trans (hbr.mono hsz)
    have hsr := hbr.size
    by_cases hlt : i < n ∧ j < m
    · obtain ⟨hi1, hj1⟩ := hlt
      have hia : i < a.length := by rw [HN.out]; exact hi1
      have hjb : j < b.length := by rw [HM.out]; exact hj1
      obtain ⟨pa, rfl, hca⟩ := RdS.at' (hR.below (hbw.mono hB)) hia
      obtain ⟨pb, rfl, hcb⟩ := RdS.at' (hR'.below (hbw.mono hB)) hjb
      have hdn : dn.length ≤ 1000 := by have := HPL.out; rw [HPR.out] at this; simp at this; omega
      have n1 : (i : Int) < (n : Int) := by omega
      have n2 : (j : Int) < (m : Int) := by omega
      by_cases hxy : a[i] = b[j]
      · have hsp : pairs a b = dn ++ (i, j) :: rest a b (i + 1) (j + 1) := by rw [HPR.out, rest_same hia hjb hxy]
        have hd1 : dn.length + 1 ≤ 1000 := by have := HPL.out; rw [hsp] at this; simp at this; omega
        have HSP := Lib.hid hsp; clear hsp HPR
        have hbe : (a[i] == b[j]) = true := by simpa using hxy
        generalize a[i] = x at *
        generalize b[j] = y at *
        clear hxy
        go_wp2
        go_quiet (fail)
        go_wp2_with (at_builtin; refine wpList_append_own _ rfl (.tmp 31) (.tmp 35) 101 rfl w1.heap.size 103 i0 (.agg #[.int .i64 0, .int .i64 0]) 2 16 Try.underlying101 hi hz0 hz1 hz2 rfl (by decide) _ _ _ rfl ((own_drewN hrow nq).alloc _) ⟨wr.heap.size, 0, none⟩ 1 1 [.int .i64 (i : Int), .int .i64 (j : Int)] rfl rfl (cells2_new (wr.drewN nq) _ _ _) (by simp [Value.oneCell']) (by unfold maxLen; omega) (by omega) (by simp; omega) ?_; intro v' w2 hown' hgrow _; obtain ⟨g', cap', rfl⟩ := ownsRow_succ hown')
        have hb2 : Below w1.heap.size w1 w2 := ((below_drewN hbr nq).alloc hsr _).grown hgrow (by simp; omega) (own_ge hrow)
        go_roundw
        case rel => exact ⟨i + 1, j + 1, dn ++ [(i, j)], by omega, by omega, by go_num, by go_num, by rw [List.length_append, cellsP_snoc]; exact hown', by rw [HSP.out]; simp, hb2⟩
        case measure => simp [intOf]; omega
      · have t0 := (hbr.cell (p := ⟨w.heap.size, i, none⟩) hT.lt0).trans (hT.top (i := i) hin)
        have t1 := (hbr.cell (p := ⟨w.heap.size, i + 1, none⟩) hT.lt0).trans (hT.top (i := i + 1) hi1)
        have x1 := (hbr.cell (p := ⟨w.heap.size + 1 + i, j + 1, none⟩) (hT.lt hin)).trans (hT.at_ (i := i) (j := j + 1) hin hj1)
        have y0 := (hbr.cell (p := ⟨w.heap.size + 1 + (i + 1), j, none⟩) (hT.lt hi1)).trans (hT.at_ (i := i + 1) (j := j) hi1 hjm)
        rw [rowV_at _ _ (by omega)] at x1 y0
        change _ = some (Value.int .i64 ((tab a b i (j + 1) : Nat) : Int)) at x1
        change _ = some (Value.int .i64 ((tab a b (i + 1) j : Nat) : Int)) at y0
        unfold refRow at t0 t1
        obtain ⟨r0, hr0⟩ : ∃ r0, w.heap.size + 1 + i = r0 := ⟨_, rfl⟩
        obtain ⟨r1, hr1⟩ : ∃ r1, w.heap.size + 1 + (i + 1) = r1 := ⟨_, rfl⟩
        rw [hr0] at t0 x1
        rw [hr1] at t1 y0
        clear hr0 hr1
        have HR := Lib.hid (rest_ne hia hjb hxy)
        have u2 := (tab_le a b (i + 1) j).2
        have u3 := (tab_le a b i (j + 1)).2
        rw [HM.out] at u2 u3
        have hbe : (a[i] == b[j]) = false := by simpa using hxy
        generalize a[i] = x at *
        generalize b[j] = y at *
        generalize tab a b (i + 1) j = q2 at *
        generalize tab a b i (j + 1) = q3 at *
        clear hxy
        have n3 : (i : Int) + 1 < (n : Int) + 1 := by omega
        have n4 : (j : Int) + 1 < (m : Int) + 1 := by omega
        have n5 : (i : Int) < (n : Int) + 1 := by omega
        have n6 : (j : Int) < (m : Int) + 1 := by omega
        have n7 : ((i : Int) + 1).toNat = i + 1 := by omega
        have n8 : ((j : Int) + 1).toNat = j + 1 := by omega
        have n9 : (0 : Int) ≤ (i : Int) + 1 := by omega
        have n10 : (0 : Int) ≤ (j : Int) + 1 := by omega
        have n11 : IntKind.i64.wrap ((i : Int) + 1) = (i : Int) + 1 := IntWalk.i64_in _ (by omega)
        have n12 : IntKind.i64.wrap ((j : Int) + 1) = (j : Int) + 1 := IntWalk.i64_in _ (by omega)
        have HO : ∀ d, (wr.drewN d).ownsRow w1.heap.size 103 2 (.slice Av dn.length cv) dn.length (cellsP dn) := fun d => hrow
        have HOO := Lib.hid HO; clear HO
        by_cases hge : q3 ≤ q2
        · have hd : decide (q3 ≤ q2) = true := by simpa using hge
          have HRR : Hid (rest a b i j = rest a b (i + 1) j) := Lib.hid (by rw [HR.out, if_pos hge])
          go_wp2
          go_quiet (fail)
          go_wp2
          refine wp_region_quiet_lit (by kernel_rfl) (by kernel_rfl) ?_
          repeat (go_big_quiet_step (fail))
          refine wpQuiet_nil ?_
          intro _ hw'
          obtain ⟨nq2, hw''⟩ := hw'
          subst hw''
          rw [World.drewN_drewN]
          clear n1 n2 n3 n4 n5 n6 n7 n8 n9 n10 n11 n12
          go_wp2
          go_roundw
          case rel => exact ⟨i + 1, j, dn, by omega, by omega, by go_num, rfl, HOO.out _, by rw [HPR.out, HRR.out], below_drewN hbr _⟩
          case measure => simp [intOf]; omega
        · have hd : decide (q3 ≤ q2) = false := by simpa using hge
          have HRR : Hid (rest a b i j = rest a b i (j + 1)) := Lib.hid (by rw [HR.out, if_neg hge])
          go_wp2
          go_quiet (fail)
          go_wp2
          refine wp_region_quiet_lit (by kernel_rfl) (by kernel_rfl) ?_
          repeat (go_big_quiet_step (fail))
          refine wpQuiet_nil ?_
          intro _ hw'
          obtain ⟨nq2, hw''⟩ := hw'
          subst hw''
          rw [World.drewN_drewN]
          clear n1 n2 n3 n4 n5 n6 n7 n8 n9 n10 n11 n12
          go_wp2
          go_roundw
          case rel => exact ⟨i, j + 1, dn, by omega, by omega, rfl, by go_num, HOO.out _, by rw [HPR.out, HRR.out], below_drewN hbr _⟩
          case measure => simp [intOf]; omega
    · have hend : pairs a b = dn := by
        rw [HPR.out]
        by_cases e : i < n
        · rw [rest_end_right _ (by rw [HM.out]; have : ¬ j < m := fun h => hlt ⟨e, h⟩; omega), List.append_nil]
        · rw [rest_end_left _ (by rw [HN.out]; omega), List.append_nil]
      have HE : Hid (PairsEnd w (pairs a b) (.returned (.slice Av dn.length cv)) wr) := Lib.hid ⟨_, rfl, by rw [hend]; exact own_mono hrow hsz, hbw⟩
      clear hend hrow
      by_cases e : i < n
      · have e2 : ¬ j < m := fun h => hlt ⟨e, h⟩
        clear hlt
        go_wp2
        go_ret
        exact HE.out
      · clear hlt
        go_wp2
        go_ret
        exact HE.out

end Lc
end Go.Proofs.Ytjhjmfodpnipiaa
