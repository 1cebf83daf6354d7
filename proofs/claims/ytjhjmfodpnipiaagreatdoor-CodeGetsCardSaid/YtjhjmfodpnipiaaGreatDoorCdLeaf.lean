/-
  What package code's Number, Digits, kind and number return, or how they end (walks).
-/
import Derived.Test.YtjhjmfodpnipiaaGreatDoorCdLib
import Derived.Test.YtjhjmfodpnipiaaGreatDoorCdMust
import Derived.Lib.AtoiAllCases
set_option maxRecDepth 100000
namespace Go.Proofs.YtjhjmfodpnipiaaGreatDoor
open Go.RowKit
set_option linter.unusedVariables false
set_option linter.unusedSimpArgs false
namespace Cd
open Tx Df Sq Hk Tr Pr

/-- A number's digits. -/
theorem Number (n : Int) (hn : I64 n) (w : World) (hv : Vars w) : Calls Tryz.prog 10 #[.int .i64 n] w fun e w' => e = .returned (strV (numI n)) ∧ Below w.heap.size w w' := by
  by_cases h0 : n < 0
  · have HR := Lib.hid (numI_no (n := n) (by omega))
    go_enter Tryz.func10, Tryz.ntmps10
    go_wp2
    go_ret
    exact ⟨by rw [HR.out]; rfl, Below.refl _ _⟩
  · have h1 : 0 ≤ n := by omega
    clear h0
    by_cases h2 : 1048576 < n
    · have HR := Lib.hid (numI_no (n := n) (by omega))
      go_enter Tryz.func10, Tryz.ntmps10
      go_wp2
      go_ret
      exact ⟨by rw [HR.out]; rfl, Below.refl _ _⟩
    · have h3 : n ≤ 1048576 := by omega
      clear h2
      have HR : Hid (Value.string ⟨(Lib.itoa n).toArray⟩ = strV (numI n)) := Lib.hid (by
        obtain ⟨k, rfl⟩ : ∃ k : Nat, n = k := ⟨n.toNat, by omega⟩
        rw [itoa_num, numI_nat (by omega)])
      go_enter Tryz.func10, Tryz.ntmps10
      go_wp2_with fail
      refine (Itoa n hn w hv).mono ?_
      rintro e w1 ⟨rfl, hb⟩
      have HB := Lib.hid hb; clear hb
      rw [HR.out]
      go_wp2
      go_ret
      exact ⟨rfl, HB.out⟩

/-- The number of digits, if there is one. -/
theorem Digits (s : List UInt8) (hl : s.length ≤ 281474976710656) (w : World) (hv : Vars w) (n : Int) (b : Bool) (hn : digN s = n) (hb : digB s = b) :
    Calls Tryz.prog 48 #[strV s] w fun e w' => e = .returned (.tuple #[.int .i64 n, .bool b]) ∧ Below w.heap.size w w' := by
  have HV := Lib.hid hv; clear hv
  by_cases ha : ∃ v, Lib.atoiAll s = .ok v
  · obtain ⟨v, hv⟩ := ha
    have HB0 := Lib.atoiAll_bounds hv
    have HA := Lib.hid hv
    by_cases he : numI v = s
    · obtain ⟨h1, h2⟩ := dig_yes hv he
      obtain rfl : v = n := by rw [← hn]; unfold digN; rw [h1]; exact h2.symm
      obtain rfl : b = true := by rw [← hb]; unfold digB; rw [h1]; rfl
      have HE := Lib.hid he
      clear hv he h1 h2 hn hb
      go_enter Tryz.func48, Tryz.ntmps48
      go_wp2_with fail
      refine (Atoi_yes s hl v HA.out w).mono ?_
      rintro e w1 ⟨rfl, hb1⟩
      have HB := Lib.hid hb1; clear hb1
      go_wp2_with fail
      refine (Number v HB0 w1 (HV.out.mv HB.out)).mono ?_
      rintro e w2 ⟨rfl, hb2⟩
      have HC := Lib.hid hb2; clear hb2
      rw [HE.out]
      go_wp2
      go_ret2
      exact ⟨rfl, HB.out.trans (HC.out.mono HB.out.size)⟩
    · have h1 := dig_no hv he
      obtain rfl : n = 0 := by rw [← hn]; unfold digN; rw [h1]
      obtain rfl : b = false := by rw [← hb]; unfold digB; rw [h1]; rfl
      obtain ⟨t, ht⟩ : ∃ t, numI v = t := ⟨_, rfl⟩
      rw [ht] at he
      have HT := Lib.hid ht
      have hx : (t == s) = false := by simpa using he
      clear hv he h1 ht hn hb
      go_enter Tryz.func48, Tryz.ntmps48
      go_wp2_with fail
      refine (Atoi_yes s hl v HA.out w).mono ?_
      rintro e w1 ⟨rfl, hb1⟩
      have HB := Lib.hid hb1; clear hb1
      go_wp2_with fail
      refine (Number v HB0 w1 (HV.out.mv HB.out)).mono ?_
      rintro e w2 ⟨rfl, hb2⟩
      have HC := Lib.hid hb2; clear hb2
      rw [HT.out]
      go_wp2
      go_ret2
      exact ⟨rfl, HB.out.trans (HC.out.mono HB.out.size)⟩
  · have h1 := dig_bad (s := s) (fun v hv => ha ⟨v, hv⟩)
    obtain rfl : n = 0 := by rw [← hn]; unfold digN; rw [h1]
    obtain rfl : b = false := by rw [← hb]; unfold digB; rw [h1]; rfl
    have HA := Lib.hid (show ∀ v, Lib.atoiAll s ≠ .ok v from fun v hv => ha ⟨v, hv⟩)
    clear ha h1 hn hb
    go_enter Tryz.func48, Tryz.ntmps48
    go_wp2_with fail
    refine (Atoi_no s hl HA.out w HV.out).mono ?_
    rintro e w1 ⟨⟨m, t, a, rfl⟩, hb1⟩
    have HB := Lib.hid hb1; clear hb1
    go_wp2
    go_ret2
    exact ⟨rfl, HB.out⟩

/-- The kind of a sign: just one byte is one. -/
theorem kind_yes (c : UInt8) (w : World) : Calls Tryz.prog 26 #[strV [c]] w fun e w' => e = .returned (.int .i64 (kindB [c])) ∧ w = w' := by
  go_enter Tryz.func26, Tryz.ntmps26
  go_wp2_with fail
  refine (must_yes w).mono ?_
  rintro e w1 ⟨rfl, rfl⟩
  go_wp2_with fail
  refine (Index c w).mono ?_
  rintro e w1 ⟨rfl, rfl⟩
  go_wp2
  go_ret
  exact ⟨rfl, rfl⟩
theorem kind_no (s : List UInt8) (n : Nat) (hn : s.length = n) (h1 : n ≠ 1) (w : World) : Calls Tryz.prog 26 #[strV s] w fun e w' => e = .panicked bad ∧ w = w' := by
  have e1 : ((n : Int) == 1) = false := by rw [beq_eq_false_iff_ne]; omega
  clear h1
  go_enter Tryz.func26, Tryz.ntmps26
  go_wp2_with fail
  refine (must_no w).mono ?_
  rintro e w1 ⟨rfl, rfl⟩
  go_wp2
  exact ⟨rfl, rfl, rfl⟩

theorem number_yes (s : List UInt8) (hl : s.length ≤ 281474976710656) (n : Nat) (h : dig s = some n) (w : World) (hv : Vars w) :
    Calls Tryz.prog 27 #[strV s] w fun e w' => e = .returned (.int .i64 (n : Int)) ∧ Below w.heap.size w w' := by
  have HD := Lib.hid (show digN s = (n : Int) by unfold digN; rw [h])
  have HB := Lib.hid (show digB s = true by unfold digB; rw [h]; rfl)
  clear h
  have HV := Lib.hid hv; clear hv
  go_enter Tryz.func27, Tryz.ntmps27
  go_wp2_with fail
  refine (Digits s hl w HV.out n true HD.out HB.out).mono ?_
  rintro e w1 ⟨rfl, hb⟩
  have HC := Lib.hid hb; clear hb
  go_wp2_with fail
  refine (must_yes w1).mono ?_
  rintro e w2 ⟨rfl, rfl⟩
  go_wp2
  go_ret
  exact ⟨rfl, HC.out⟩
theorem number_no (s : List UInt8) (hl : s.length ≤ 281474976710656) (h : dig s = none) (w : World) (hv : Vars w) :
    Calls Tryz.prog 27 #[strV s] w fun e w' => e = .panicked bad ∧ Below w.heap.size w w' := by
  have HD := Lib.hid (show digN s = 0 by unfold digN; rw [h])
  have HB := Lib.hid (show digB s = false by unfold digB; rw [h]; rfl)
  clear h
  have HV := Lib.hid hv; clear hv
  go_enter Tryz.func27, Tryz.ntmps27
  go_wp2_with fail
  refine (Digits s hl w HV.out 0 false HD.out HB.out).mono ?_
  rintro e w1 ⟨rfl, hb⟩
  have HC := Lib.hid hb; clear hb
  go_wp2_with fail
  refine (must_no w1).mono ?_
  rintro e w2 ⟨rfl, rfl⟩
  go_wp2
  exact ⟨rfl, rfl, HC.out⟩

end Cd
end Go.Proofs.YtjhjmfodpnipiaaGreatDoor
