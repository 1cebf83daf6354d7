/-
  What Get of layer 7 returns (walk).
-/
import Derived.Test.YtfjllohhjpiphaaTrAgain
import Derived.Test.YtfjllohhjpiphaaTrFind
set_option maxRecDepth 100000
namespace Go.Proofs.Ytfjllohhjpiphaa
open Go.RowKit
set_option linter.unusedVariables false
namespace Tr
open Tx

set_option maxHeartbeats 1000000 in
theorem Get (s : List UInt8) (A : Option Addr) (c n B : Nat) (t : TR) (w : World) (hn : t.length = n) (hs : Wide t) (hB : B ≤ w.heap.size) (hR : RdT w B A t) :
    Calls Try.prog 69 #[.slice A n c, strV s] w (GetEnd w (get t s)) := by
  have hln : n ≤ 3518437208800 := by rw [← hn]; exact hs.len
  have hF := fun w hB hR => find s A c n B t w hn hln hB hR
  have HN := Lib.hid hn; clear hn
  have HS := Lib.hid hs; clear hs
  cases hi : ixF (isN s) t with
  | none =>
    have HE := Lib.hid (get_ix_none hi)
    rw [hi] at hF
    have HF := Lib.hid hF; clear hF hi
    go_enter Try.func69, Try.ntmps69
    go_wp2_with fail
    refine (HF.out w hB hR).mono ?_
    rintro e w1 ⟨rfl, hb⟩
    simp only [ixV]
    go_wp2
    go_ret2
    rw [HE.out]
    exact ⟨none, 0, rfl, Nat.le_refl _, .inl rfl, hb⟩
  | some k =>
    obtain ⟨hk, h1, h2, h3⟩ := get_ix hi
    have hsm := HS.out.all _ (List.getElem_mem hk)
    rw [hi] at hF
    have HF := Lib.hid hF; clear hF hi h3
    have HE := Lib.hid h2
    obtain ⟨x, hx⟩ : ∃ x, t[k] = x := ⟨_, rfl⟩
    have hkn : k < n := by rw [← HN.out]; exact hk
    rw [hx] at hsm HE h1
    have HX := Lib.hid hx
    have HK := Lib.hid hk
    clear h1 h2 hx
    go_enter Try.func69, Try.ntmps69
    go_wp2_with fail
    refine (HF.out w hB hR).mono ?_
    rintro e w1 ⟨rfl, hb⟩
    simp only [ixV]
    obtain ⟨a, rfl, hab, hat⟩ := (hR.below (hb.mono hB)).at_ HK.out
    rw [HX.out] at hat
    obtain ⟨c0, A1, c1, k1, hc1, hr1⟩ := hat
    obtain ⟨m, hm⟩ : ∃ m, x.2.length = m := ⟨_, rfl⟩
    have hm5 : m ≤ 8796093022208 := by rw [← hm]; exact Nat.le_trans hsm (by decide)
    rw [hm] at k1 hc1
    have HM := Lib.hid hm; have HR1 := Lib.hid hr1; have HB1 := Lib.hid hb
    clear hm hr1 hsm hb
    go_wp2_with fail
    refine (againL A1 c1 m B x.2 w1 HM.out hm5 (Nat.le_trans hB HB1.out.size) HR1.out).mono ?_
    rintro e w2 ⟨rfl, hr2, hg2⟩
    obtain ⟨A2, c2, e2, hc2, hrd⟩ := rd_of_own hr2
    injection e2 with e2 _ e3
    subst e2; subst e3
    have HRD := Lib.hid hrd; have HG2 := Lib.hid hg2
    clear hr2 hg2 hrd hc2
    go_wp2
    go_ret2
    rw [HE.out]
    refine ⟨some ⟨w1.heap.size, 0, none⟩, m, ?_, ?_, HRD.out, HB1.out.trans ((below_gr HG2.out).mono HB1.out.size)⟩
    · simp only [Option.getD_some, HM.out]; rfl
    · simp only [Option.getD_some, HM.out]; exact Nat.le_refl _

end Tr
end Go.Proofs.Ytfjllohhjpiphaa
