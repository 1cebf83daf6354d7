/-
  What the document's where, Get, Same and May of layer 7 return (walks).
-/
import Derived.Test.YtdjeebfbffoehaaTrMay
import Derived.Test.YtdjeebfbffoehaaTrOpen
import Derived.Test.YtdjeebfbffoehaaGX
import Derived.Test.YtdjeebfbffoehaaGQ
namespace Go.Proofs.Ytdjeebfbffoehaa
open Go.RowKit
set_option linter.unusedVariables false
namespace Tr
open Tx

set_option maxHeartbeats 1000000 in
theorem refWhere (s : List UInt8) (A : Option Addr) (c n B : Nat) (t : TR) (w : World) (hn : t.length = n) (hln : n ≤ 100000) (hR : RdT w B A t) :
    Calls Try.prog 56 #[.slice A n c, strV s] w fun e w' => e = .returned (.int .i64 (ixV (ixF (isN s) t))) ∧ w = w' := by
  have HN := Lib.hid hn; clear hn
  obtain ⟨iv, hiv⟩ : ∃ iv, ixV (ixF (isN s) t) = iv := ⟨_, rfl⟩
  rw [hiv]
  have HIV := Lib.hid hiv; clear hiv
  go_enter Try.func56, Try.ntmps56
  go_wp2_with fail
  go_loop [5] (fun i => ∃ k : Nat, k ≤ n ∧ i = .int .i64 (k : Int) ∧ (∀ j (hj : j < t.length), j < k → isN s t[j] = false)) (fun i => n - (intOf i).toNat)
  case atStart => exact ⟨0, Nat.zero_le _, rfl, fun j _ hj => by omega⟩
  case round =>
    obtain ⟨k, hk, rfl, hall⟩ := hrel
    have HA := Lib.hid hall; clear hall
    by_cases hlt : k < n
    · have hkl : k < t.length := by rw [HN.out]; exact hlt
      obtain ⟨a, rfl, hab, hat⟩ := hR.at_ hkl
      obtain ⟨x, hx⟩ : ∃ x, t[k] = x := ⟨_, rfl⟩
      rw [hx] at hat
      have HX := Lib.hid hx; clear hx
      have c0 := hat.c0
      clear hat
      by_cases he : x.1 = s
      · have HE : Hid (iv = (k : Int)) := Lib.hid (by rw [← HIV.out, ixF_at hkl (by rw [HX.out]; exact decide_eq_true he) fun j hj => HA.out j (by omega) hj]; rfl)
        subst he
        go_wp2
        go_ret
        exact ⟨by rw [HE.out]; rfl, rfl⟩
      · have h1 : (x.1 == s) = false := by simpa using he
        have HE := Lib.hid he
        clear he
        go_wp2
        go_round
        case rel =>
          exact ⟨k + 1, by omega, by go_num, fun j hjl hj => by
            by_cases e : j = k
            · subst e; rw [HX.out]; exact decide_eq_false HE.out
            · exact HA.out j hjl (by omega)⟩
        case measure => simp [intOf]; omega
    · obtain rfl : k = n := by omega
      have HE : Hid (iv = -1) := Lib.hid (by rw [← HIV.out, ixF_no fun j hj => HA.out j hj (by rw [← HN.out]; exact hj)]; rfl)
      go_wp2
      go_ret
      exact ⟨by rw [HE.out]; rfl, rfl⟩

set_option maxHeartbeats 1000000 in
theorem refGet (s : List UInt8) (A : Option Addr) (c n B : Nat) (t : TR) (w : World) (hn : t.length = n) (hs : Small t) (hB : B ≤ w.heap.size) (hR : RdT w B A t) :
    Calls Try.prog 29 #[.slice A n c, strV s] w (GetEnd w (get t s)) := by
  obtain ⟨j0, hj, hy0, hy1, hy2⟩ := info_parts info_str
  have hln : n ≤ 100000 := by rw [← hn]; exact hs.len
  have hW := refWhere s A c n B t w hn hln hR
  have HN := Lib.hid hn; clear hn
  have HS := Lib.hid hs; clear hs
  cases hi : ixF (isN s) t with
  | none =>
    have HE := Lib.hid (get_ix_none hi)
    rw [hi] at hW
    have HW := Lib.hid hW; clear hW hi
    go_enter Try.func29, Try.ntmps29
    go_wp2_with fail
    refine HW.out.mono ?_
    rintro e w1 ⟨rfl, rfl⟩
    simp only [ixV]
    go_wp2
    go_ret2
    rw [HE.out]
    exact ⟨none, 0, rfl, Nat.le_refl _, .inl rfl, Below.refl _ _⟩
  | some k =>
    obtain ⟨hk, h1, h2, h3⟩ := get_ix hi
    have hsm := HS.out.all _ (List.getElem_mem hk)
    rw [hi] at hW
    have HW := Lib.hid hW; clear hW hi h3
    have HE := Lib.hid h2
    obtain ⟨a, rfl, hab, hat⟩ := hR.at_ hk
    obtain ⟨x, hx⟩ : ∃ x, t[k] = x := ⟨_, rfl⟩
    have hkn : k < n := by rw [← HN.out]; exact hk
    rw [hx] at hsm HE h1 hat
    clear h1 h2 hx
    obtain ⟨c0, A1, c1, k1, hc1, hr1⟩ := hat
    obtain ⟨m, hm⟩ : ∃ m, x.2.length = m := ⟨_, rfl⟩
    have hm5 : m ≤ 100000 := by rw [← hm]; exact hsm.l
    rw [hm] at k1 hc1
    have HM := Lib.hid hm; have HR1 := Lib.hid hr1
    clear hm hr1 hsm hk
    go_enter Try.func29, Try.ntmps29
    go_wp2_with fail
    refine HW.out.mono ?_
    rintro e w1 ⟨rfl, rfl⟩
    simp only [ixV]
    go_wp2_with (at_builtin; refine wpList_nil' rfl (.const (.slice none 0 0)) (.tmp 16) 24 rfl 9 j0 (.string ⟨#[]⟩) 16 Try.underlying24 hj hy0 hy1 hy2 rfl rfl B A1 m c1 (x.2.map strV) rfl (by rw [List.length_map]; exact HM.out) HR1.out (strs_one _) (by unfold maxLen; omega) (by omega) ?_; intro A' c' w' hA hg; have HA := Lib.hid hA; have HG := Lib.hid hg; clear hA hg)
    obtain ⟨A2, c2, e2, hc2, hrd⟩ := rd_of_own HA.out
    injection e2 with e2 _ e3
    subst e2; subst e3
    have HRD := Lib.hid hrd
    clear hrd
    go_ret2
    rw [HE.out]
    refine ⟨A', c', ?_, ?_, HRD.out, below_gr HG.out⟩
    · simp only [Option.getD_some, HM.out]; rfl
    · simp only [Option.getD_some, HM.out]; exact hc2

end Tr
end Go.Proofs.Ytdjeebfbffoehaa
