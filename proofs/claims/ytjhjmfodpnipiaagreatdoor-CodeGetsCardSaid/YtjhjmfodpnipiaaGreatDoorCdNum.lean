/-
  Plain functions for layer 12: a number's digits as the library's own functions tell them. No program is walked.
-/
import Derived.Test.YtjhjmfodpnipiaaGreatDoorCdPlain
import Derived.Lib.ItoaNum
import Derived.Lib.AtoiTie
set_option maxRecDepth 100000
namespace Go.Proofs.YtjhjmfodpnipiaaGreatDoor
namespace Cd
open Tx Sq Hk Tr Pr
set_option linter.unusedVariables false

theorem num_dec (n : Nat) : num n = Lib.decDigits n := by
  refine num_ind (P := fun n => num n = Lib.decDigits n) (fun n h => ?_) (fun n h ih => ?_) n
  · rw [num_lt h, Lib.decDigits, dif_pos h]
  · rw [num_ge h, Lib.decDigits, dif_neg h, ih]
theorem itoa_num (n : Nat) : Lib.itoa (n : Int) = num n := by
  unfold Lib.itoa
  rw [if_neg (by omega), num_dec]
  rfl
theorem decFrom_app : ∀ (l : List UInt8) (acc m : Nat) (c : UInt8) (d : Nat), Lib.decFrom acc l = some m → Lib.digitVal c = some d → Lib.decFrom acc (l ++ [c]) = some (m * 10 + d)
  | [], acc, m, c, d, h, hc => by
    injection h with h
    subst h
    show (match Lib.digitVal c with | some d => Lib.decFrom (acc * 10 + d) [] | none => none) = _
    rw [hc]
    rfl
  | x :: l, acc, m, c, d, h, hc => by
    show (match Lib.digitVal x with | some d => Lib.decFrom (acc * 10 + d) (l ++ [c]) | none => none) = _
    change (match Lib.digitVal x with | some d => Lib.decFrom (acc * 10 + d) l | none => none) = _ at h
    cases hx : Lib.digitVal x with
    | none => rw [hx] at h; cases h
    | some e => rw [hx] at h; exact decFrom_app l _ m c d h hc
theorem digitVal_nat {d : Nat} (h : d < 10) : Lib.digitVal (UInt8.ofNat (48 + d)) = some d := by
  unfold Lib.digitVal
  rw [dig_nat h, if_pos (by omega)]
  congr 1
  omega
theorem decFrom_num (n : Nat) : Lib.decFrom 0 (num n) = some n := by
  refine num_ind (P := fun n => Lib.decFrom 0 (num n) = some n) (fun n h => ?_) (fun n h ih => ?_) n
  · rw [num_lt h]
    have := decFrom_app [] 0 0 _ _ rfl (digitVal_nat h)
    simpa using this
  · rw [num_ge h, decFrom_app _ _ _ _ _ ih (digitVal_nat (Nat.mod_lt _ (by decide)))]
    congr 1
    omega
theorem atoi_num {n : Nat} (h : n ≤ 1048576) : Lib.atoiAll (num n) = .ok (n : Int) := by
  rw [Lib.atoiAll_short _ (by have := num_len7 h; omega)]
  have hd := decFrom_num n
  have hdig := num_digit n
  cases hn : num n with
  | nil => exact absurd hn (num_ne n)
  | cons b r =>
    rw [hn] at hd hdig
    have hb := hdig b (.head _)
    have n1 : (b == 45) = false := by
      rw [beq_eq_false_iff_ne]; rintro rfl
      have e : (45 : UInt8).toNat = 45 := rfl
      omega
    have n2 : (b == 43) = false := by
      rw [beq_eq_false_iff_ne]; rintro rfl
      have e : (43 : UInt8).toNat = 43 := rfl
      omega
    show Lib.NumEnd.ofOption (Lib.atoi (b :: r)) = _
    unfold Lib.atoi
    simp only [n1, n2, Bool.false_eq_true, if_false]
    have e : Lib.decNat (b :: r) = some n := hd
    rw [e]
    rfl
theorem atoi_nil (v : Int) : Lib.atoiAll [] ≠ .ok v := fun h => by cases h
/-- Where the library tells a number, it is that of these digits just if these are its digits. -/
theorem dig_yes {s : List UInt8} {v : Int} (h : Lib.atoiAll s = .ok v) (hv : numI v = s) : dig s = some v.toNat ∧ (v.toNat : Int) = v := by
  have hs : s ≠ [] := fun e => by rw [e] at h; exact atoi_nil v h
  by_cases hr : 0 ≤ v ∧ v ≤ 1048576
  · obtain ⟨n, rfl⟩ : ∃ n : Nat, v = n := ⟨v.toNat, by omega⟩
    rw [numI_nat (by omega)] at hv
    exact ⟨dig_iff.2 ⟨by omega, hv⟩, rfl⟩
  · rw [numI_no hr] at hv
    exact absurd hv.symm hs
theorem dig_no {s : List UInt8} {v : Int} (h : Lib.atoiAll s = .ok v) (hv : numI v ≠ s) : dig s = none := by
  cases hd : dig s with
  | none => rfl
  | some n =>
    obtain ⟨h1, h2⟩ := dig_iff.1 hd
    rw [← h2, atoi_num h1] at h
    injection h with h
    subst h
    rw [numI_nat h1] at hv
    exact absurd h2 hv
theorem dig_bad {s : List UInt8} (h : ∀ v, Lib.atoiAll s ≠ .ok v) : dig s = none := by
  cases hd : dig s with
  | none => rfl
  | some n =>
    obtain ⟨h1, h2⟩ := dig_iff.1 hd
    exact absurd (by rw [← h2]; exact atoi_num h1) (h n)
/-- The number of digits, and whether there is one. -/
def digN (s : List UInt8) : Int := match dig s with | some n => (n : Int) | none => 0
def digB (s : List UInt8) : Bool := (dig s).isSome
theorem numI_len (n : Int) : (numI n).length ≤ 7 := by
  by_cases h : 0 ≤ n ∧ n ≤ 1048576
  · unfold numI
    rw [if_pos h]
    exact num_len7 (by omega)
  · rw [numI_no h]; decide

end Cd
end Go.Proofs.YtjhjmfodpnipiaaGreatDoor
