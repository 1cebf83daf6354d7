/-
  What the document's own Number and Digits of layer 12 return (walks).
-/
import Derived.Test.YtjhjmfodpnipiaaGreatDoorCdNum
import Derived.Test.YtjhjmfodpnipiaaGreatDoorTxIter
import Derived.Test.YtjhjmfodpnipiaaGreatDoorGQ
set_option maxRecDepth 100000
namespace Go.Proofs.YtjhjmfodpnipiaaGreatDoor
open Go.RowKit Go.Shelf
set_option linter.unusedVariables false
set_option linter.unusedSimpArgs false
namespace Cd
open Tx Df Sq Hk Tr Pr

/-- The digits ahead of those that are written. -/
def pre (j : Nat) : List UInt8 := if j = 0 then [] else num j
theorem pre_step {j : Nat} (h : 0 < j) : pre j = pre (j / 10) ++ [UInt8.ofNat (48 + j % 10)] := by
  unfold pre
  rw [if_neg (by omega)]
  by_cases h10 : j < 10
  · rw [num_lt h10, if_pos (by omega), Nat.mod_eq_of_lt h10]; rfl
  · rw [num_ge h10, if_neg (by omega)]
theorem pre_num (k : Nat) : num k = pre (k / 10) ++ [UInt8.ofNat (48 + k % 10)] := by
  by_cases h : 0 < k
  · rw [← pre_step h]; unfold pre; rw [if_neg (by omega)]
  · obtain rfl : k = 0 := by omega
    rw [num_lt (by decide)]; rfl
theorem conv_one (W : World) (x : Int) (c : UInt8) (hx : x = (c.toNat : Int)) : (convert 22 9 (.slice (some ⟨W.heap.size, 0, none⟩) 1 1)).run Tryz.prog (W.alloc (.cells #[.int .u8 x] 5)) = .ok (strV [c]) (W.alloc (.cells #[.int .u8 x] 5)) := by
  subst hx
  have hr : RdB (W.alloc (.cells #[.int .u8 (c.toNat : Int)] 5)) (W.heap.size + 1) (some ⟨W.heap.size, 0, none⟩) [c] := .inr ⟨_, rfl, Nat.lt_succ_self _, fun j u hu => by
    cases j with
    | zero =>
      injection hu with hu
      subst hu
      exact (Blk.new W 5 #[.int .u8 (c.toNat : Int)]).cell 0 rfl
    | succ j => simp at hu⟩
  exact run_conv hr 22 9 5 1 Tryz.underlying22 Tryz.underlying5 Tryz.underlying9

theorem str_cat (x y : List UInt8) : ByteArray.mk x.toArray ++ ByteArray.mk y.toArray = ByteArray.mk (x ++ y).toArray := by
  apply ByteArray.ext
  simp
theorem conv_dig (k : Nat) (W : World) : (convert 22 9 (.slice (some ⟨W.heap.size, 0, none⟩) 1 1)).run Tryz.prog (W.alloc (.cells #[.int .u8 (48 + (k : Int) % 10)] 5)) = .ok (strV [UInt8.ofNat (48 + k % 10)]) (W.alloc (.cells #[.int .u8 (48 + (k : Int) % 10)] 5)) :=
  conv_one W _ _ (by rw [dig_nat (Nat.mod_lt _ (by decide))]; omega)

set_option maxHeartbeats 2000000 in
theorem refNumber (n : Int) (hn : I64 n) (w : World) : Calls Tryz.prog 37 #[.int .i64 n] w fun e w' => e = .returned (strV (numI n)) ∧ Below w.heap.size w w' := by
  by_cases h0 : n < 0
  · have HR := Lib.hid (numI_no (n := n) (by omega))
    go_enter Tryz.func37, Tryz.ntmps37
    go_wp2
    go_ret
    exact ⟨by rw [HR.out]; rfl, Below.refl _ _⟩
  · have h1 : 0 ≤ n := by omega
    clear h0
    by_cases h2 : 1048576 < n
    · have HR := Lib.hid (numI_no (n := n) (by omega))
      go_enter Tryz.func37, Tryz.ntmps37
      go_wp2
      go_ret
      exact ⟨by rw [HR.out]; rfl, Below.refl _ _⟩
    · obtain ⟨k, rfl⟩ : ∃ k : Nat, n = k := ⟨n.toNat, by omega⟩
      have hk : k ≤ 1048576 := by omega
      have HR := Lib.hid (numI_nat hk)
      have HP := Lib.hid (pre_num k)
      have hc := conv_dig k w
      obtain ⟨c0, hc0⟩ : ∃ c, UInt8.ofNat (48 + k % 10) = c := ⟨_, rfl⟩
      rw [hc0] at hc HP
      clear h2 hc0
      go_enter Tryz.func37, Tryz.ntmps37
      go_wp2
      clear hc
      go_loopw [0, 3] (fun x v W => ∃ (j : Nat) (s : List UInt8), j ≤ k ∧ x = .int .i64 (j : Int) ∧ v = strV s ∧ num k = pre j ++ s ∧ Below w.heap.size w W) (fun x _ _ => (intOf x).toNat)
      case atStart => exact ⟨k / 10, _, Nat.div_le_self _ _, congrArg (Value.int .i64) (by omega), rfl, HP.out, (Below.refl _ _).alloc (Nat.le_refl _) _⟩
      case round =>
        obtain ⟨j, s, hjk, rfl, rfl, hs, hbw⟩ := hrel
        have HS := Lib.hid hs; have HBW := Lib.hid hbw; clear hs hbw
        by_cases h0 : 0 < j
        · have h0i : (0 : Int) < (j : Int) := by omega
          have hc := conv_dig j wr
          have hl : s.length ≤ 7 := by
            have h1 := congrArg List.length HS.out
            have h2 := numI_len (k : Int)
            rw [HR.out, List.length_append] at *
            omega
          have hsm : ¬ 9223372036854775807 < [UInt8.ofNat (48 + j % 10)].length + s.length := by simp; omega
          have hst := pre_step h0
          obtain ⟨c0, hc0⟩ : ∃ c, UInt8.ofNat (48 + j % 10) = c := ⟨_, rfl⟩
          rw [hc0] at hc hst hsm
          have HST := Lib.hid hst
          clear hc0 hst
          go_wp2
          refine ⟨⟨j / 10, c0 :: s, Nat.le_trans (Nat.div_le_self _ _) hjk, congrArg (Value.int .i64) (by omega), congrArg Value.string (str_cat [c0] s), by rw [HS.out, HST.out]; simp, HBW.out.trans ((Below.refl _ _).alloc HBW.out.size _)⟩, by simp [intOf]; omega⟩
        · obtain rfl : j = 0 := by omega
          have he : numI (k : Int) = s := by rw [HR.out, HS.out]; rfl
          have HE := Lib.hid he
          clear he
          go_wp2
          go_ret
          exact ⟨by rw [HE.out]; rfl, HBW.out⟩

theorem num_chars (n : Nat) : ∀ c ∈ num n, 48 ≤ c.toNat ∧ c.toNat ≤ 57 := by
  refine num_ind (P := fun n => ∀ c ∈ num n, 48 ≤ c.toNat ∧ c.toNat ≤ 57) (fun n h => ?_) (fun n h ih => ?_) n
  · rw [num_lt h]
    intro c hc
    rw [List.mem_singleton.1 hc, dig_nat h]
    omega
  · rw [num_ge h]
    intro c hc
    rcases List.mem_append.1 hc with hc | hc
    · exact ih c hc
    · rw [List.mem_singleton.1 hc, dig_nat (Nat.mod_lt _ (by decide))]
      omega
theorem dig_bad_char {s : List UInt8} {c : UInt8} (hc : c ∈ s) (h : c.toNat < 48 ∨ 57 < c.toNat) : dig s = none := by
  cases hd : dig s with
  | none => rfl
  | some n =>
    obtain ⟨_, h2⟩ := dig_iff.1 hd
    have h3 := num_chars n c (by rw [h2]; exact hc)
    omega
theorem dig_bad_len {s : List UInt8} (h : 7 < s.length ∨ s.length < 1) : dig s = none := by
  cases hd : dig s with
  | none => rfl
  | some n =>
    obtain ⟨h1, h2⟩ := dig_iff.1 hd
    have h3 := numI_len (n : Int)
    rw [numI_nat h1, h2] at h3
    have h4 := num_ne n
    rw [h2] at h4
    have h5 := List.length_pos_iff.2 h4
    omega
theorem digs_none {s : List UInt8} (h : dig s = none) : digN s = 0 ∧ digB s = false := by
  unfold digN digB
  rw [h]
  exact ⟨rfl, rfl⟩
theorem val_take {s : List UInt8} {k : Nat} {c : UInt8} (h : s[k]? = some c) : val (s.take (k + 1)) = 10 * val (s.take k) + (c.toNat - 48) := by
  obtain ⟨hk, e⟩ := List.getElem?_eq_some_iff.1 h
  rw [List.take_succ_eq_append_getElem hk, e, val_snoc]
theorem val_le : ∀ (k : Nat) (s : List UInt8), (∀ c ∈ s, c.toNat ≤ 57) → s.length ≤ k → k ≤ 7 → val s ≤ 10000000 := by
  intro k s hc hl hk
  have key : ∀ (n : Nat) (s : List UInt8), (∀ c ∈ s, c.toNat ≤ 57) → s.length = n → val s + 1 ≤ 10 ^ n := by
    intro n
    induction n with
    | zero => intro s _ hs; rw [List.eq_nil_of_length_eq_zero hs]; decide
    | succ n ih =>
      intro s hc hs
      obtain ⟨t, c, rfl⟩ : ∃ t c, s = t ++ [c] := ⟨s.dropLast, s.getLast (fun e => by rw [e] at hs; simp at hs), (List.dropLast_concat_getLast _).symm⟩
      rw [val_snoc]
      have h1 := ih t (fun d hd => hc d (List.mem_append_left _ hd)) (by simpa using hs)
      have h2 := hc c (by simp)
      rw [Nat.pow_succ]
      omega
  have h1 := key s.length s hc rfl
  have h2 : 10 ^ s.length ≤ 10 ^ 7 := Nat.pow_le_pow_right (by decide) (by omega)
  have h3 : (10 : Nat) ^ 7 = 10000000 := by decide
  omega

set_option maxHeartbeats 2000000 in
theorem refDigits (s : List UInt8) (hs : s.length ≤ maxLen) (w : World) :
    Calls Tryz.prog 34 #[strV s] w fun e w' => e = .returned (.tuple #[.int .i64 (digN s), .bool (digB s)]) ∧ Below w.heap.size w w' := by
  obtain ⟨n, hn⟩ : ∃ n, s.length = n := ⟨_, rfl⟩
  have HN := Lib.hid hn
  rw [hn] at hs
  unfold maxLen at hs
  by_cases h7 : 7 < n
  · have HD := Lib.hid (digs_none (dig_bad_len (s := s) (.inl (by omega))))
    go_enter Tryz.func34, Tryz.ntmps34
    go_wp2
    go_ret2
    exact ⟨by rw [HD.out.1, HD.out.2]; rfl, Below.refl _ _⟩
  by_cases h1 : n < 1
  · have HD := Lib.hid (digs_none (dig_bad_len (s := s) (.inr (by omega))))
    have h7' : n ≤ 7 := by omega
    go_enter Tryz.func34, Tryz.ntmps34
    go_wp2
    go_ret2
    exact ⟨by rw [HD.out.1, HD.out.2]; rfl, Below.refl _ _⟩
  have h7' : n ≤ 7 := by omega
  have h1' : 1 ≤ n := by omega
  clear h7 h1 hs
  go_enter Tryz.func34, Tryz.ntmps34
  go_wp2
  go_loopw [4, 5] (fun x i W => ∃ (k v : Nat), k ≤ n ∧ i = .int .i64 (k : Int) ∧ x = .int .i64 (v : Int) ∧ v = val (s.take k) ∧ (∀ c ∈ s.take k, 48 ≤ c.toNat ∧ c.toNat ≤ 57) ∧ w = W) (fun _ i _ => n - (intOf i).toNat)
  case atStart => exact ⟨0, 0, Nat.zero_le _, rfl, rfl, rfl, fun c hc => by simp at hc, rfl⟩
  case round =>
    obtain ⟨k, v, hk, rfl, rfl, hv, hall, rfl⟩ := hrel
    have HV := Lib.hid hv; have HA := Lib.hid hall; clear hv hall
    have hvl : v ≤ 10000000 := by
      rw [HV.out]
      exact val_le 7 _ (fun c hc => (HA.out c hc).2) (by rw [List.length_take]; omega) (Nat.le_refl _)
    by_cases hlt : k < n
    · have hki : (k : Int) < (n : Int) := by omega
      obtain ⟨c, hc⟩ : ∃ c, s[k]? = some c := ⟨_, List.getElem?_eq_getElem (by rw [HN.out]; exact hlt)⟩
      have HC := Lib.hid hc
      have hb : k < (ByteArray.mk s.toArray).size := by show k < s.toArray.size; rw [List.size_toArray, HN.out]; exact hlt
      have hix : (ByteArray.mk s.toArray)[k] = c := by
        obtain ⟨h1, h2⟩ := List.getElem?_eq_some_iff.1 hc
        show s.toArray[k] = c
        rw [List.getElem_toArray]; exact h2
      clear hc
      by_cases c1 : c.toNat < 48
      · have c1i : (c.toNat : Int) < 48 := by omega
        have HD := Lib.hid (digs_none (dig_bad_char (List.mem_of_getElem? HC.out) (.inl c1)))
        clear c1
        go_wp2
        go_ret2
        exact ⟨by rw [HD.out.1, HD.out.2]; rfl, Below.refl _ _⟩
      · by_cases c2 : 57 < c.toNat
        · have c1i : ¬ (c.toNat : Int) < 48 := by omega
          have c2i : (57 : Int) < (c.toNat : Int) := by omega
          have HD := Lib.hid (digs_none (dig_bad_char (List.mem_of_getElem? HC.out) (.inr c2)))
          clear c1 c2
          go_wp2
          go_ret2
          exact ⟨by rw [HD.out.1, HD.out.2]; rfl, Below.refl _ _⟩
        · have c1i : ¬ (c.toNat : Int) < 48 := by omega
          have c2i : ¬ (57 : Int) < (c.toNat : Int) := by omega
          have c3 : (48 : Int) ≤ (c.toNat : Int) := by omega
          have c4 : (c.toNat : Int) ≤ 57 := by omega
          have C1 := Lib.hid c1; have C2 := Lib.hid c2
          clear c1 c2
          go_wp2
          have c1 := C1.out; have c2 := C2.out
          refine ⟨⟨k + 1, 10 * v + (c.toNat - 48), by omega, by go_num, congrArg (Value.int .i64) (by omega), by rw [val_take HC.out, HV.out], fun d hd => ?_, trivial⟩, by simp [intOf]; omega⟩
          obtain ⟨hk', e⟩ := List.getElem?_eq_some_iff.1 HC.out
          rw [List.take_succ_eq_append_getElem hk', e] at hd
          rcases List.mem_append.1 hd with hd | hd
          · exact HA.out d hd
          · rw [List.mem_singleton.1 hd]; omega
    · obtain rfl : k = n := by omega
      have ht : s.take k = s := List.take_of_length_le (Nat.le_of_eq HN.out)
      rw [ht] at HV
      have HNU := Lib.hid (refNumber (v : Int) (by unfold I64; omega) w)
      obtain ⟨t, htn⟩ : ∃ t, numI (v : Int) = t := ⟨_, rfl⟩
      rw [htn] at HNU
      have hsn : s ≠ [] := fun e => by have := HN.out; rw [e] at this; simp at this; omega
      go_wp2_with fail
      refine HNU.out.mono ?_
      rintro e w2 ⟨rfl, hb⟩
      have HB := Lib.hid hb; clear hb HNU
      by_cases hts : t = s
      · have hd : dig s = some v := by
          have h1 : (dig s).isSome = true := (dig_numI s).2 ⟨hsn, by rw [← HV.out, htn, hts]⟩
          cases hd : dig s with
          | none => rw [hd] at h1; cases h1
          | some u =>
            unfold dig at hd
            split at hd
            · rw [← hd, HV.out]
            · cases hd
        have HD : Hid (digN s = (v : Int) ∧ digB s = true) := Lib.hid (by unfold digN digB; rw [hd]; exact ⟨rfl, rfl⟩)
        clear hd htn hsn
        subst hts
        go_wp2
        go_ret2
        exact ⟨by rw [HD.out.1, HD.out.2]; rfl, HB.out⟩
      · have hd : dig s = none := by
          cases hd : dig s with
          | none => rfl
          | some u =>
            obtain ⟨h1, h2⟩ := (dig_numI s).1 (by rw [hd]; rfl)
            rw [← HV.out, htn] at h2
            exact absurd h2 hts
        have HD := Lib.hid (digs_none hd)
        have hx : (t == s) = false := by simpa using hts
        clear hd htn hsn
        go_wp2
        go_ret2
        exact ⟨by rw [HD.out.1, HD.out.2]; rfl, HB.out⟩

end Cd
end Go.Proofs.YtjhjmfodpnipiaaGreatDoor
