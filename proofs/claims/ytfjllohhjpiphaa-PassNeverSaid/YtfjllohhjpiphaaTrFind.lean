/-
  What the closures of find and place, slices.IndexFunc (of files), find and place of layer 7 return (walks).
-/
import Derived.Test.YtfjllohhjpiphaaTrMem
set_option maxRecDepth 100000
namespace Go.Proofs.Ytfjllohhjpiphaa
open Go.RowKit
set_option linter.unusedVariables false
namespace Tr
open Tx

theorem isN_eq (nm : List UInt8) (x : FL) : isN nm x = decide (x.1 = nm) := rfl

theorem find1 (s nm : List UInt8) (A : Option Addr) (n c b : Nat) (W : World) (hb : b < W.heap.size) (hc : W.cell? ⟨b, 0, none⟩ = some (strV nm)) :
    Calls Try.prog 87 #[flV s A n c, .pointer (some ⟨b, 0, none⟩)] W (BoolEnd W (decide (s = nm))) := by
  go_enter Try.func87, Try.ntmps87
  go_wp2
  go_ret
  exact ⟨ret_bool (by rw [Bool.eq_iff_iff]; simp), (Below.refl _ _).alloc (Nat.le_refl _) _⟩

theorem place1 (s nm : List UInt8) (A : Option Addr) (n c b : Nat) (W : World) (hb : b < W.heap.size) (hc : W.cell? ⟨b, 0, none⟩ = some (strV nm)) :
    Calls Try.prog 90 #[flV s A n c, .pointer (some ⟨b, 0, none⟩)] W (BoolEnd W (Op.bytesLess nm s)) := by
  go_enter Try.func90, Try.ntmps90
  go_wp2
  go_ret
  exact ⟨ret_bool (gt_eq s nm), (Below.refl _ _).alloc (Nat.le_refl _) _⟩

set_option maxHeartbeats 1000000 in
/-- slices.IndexFunc at the closure of find. -/
theorem Index_find (nm : List UInt8) (A : Option Addr) (c n b B : Nat) (t : TR) (w : World) (hn : t.length = n) (hln : n ≤ 3518437208800) (hB : B ≤ w.heap.size) (hR : RdT w B A t) (hb : b < w.heap.size) (hcb : w.cell? ⟨b, 0, none⟩ = some (strV nm)) :
    Calls Try.prog 86 #[.slice A n c, .func (.func 87) #[] #[.pointer (some ⟨b, 0, none⟩)]] w (IntEnd w (ixV (ixF (isN nm) t))) := by
  have HN := Lib.hid hn; clear hn
  obtain ⟨g, hg⟩ : ∃ g, w.heap.size = g := ⟨_, rfl⟩
  unfold IntEnd
  rw [hg]
  have HG := Lib.hid hg; clear hg
  have HC := Lib.hid hcb; clear hcb
  obtain ⟨iv, hiv⟩ : ∃ iv, ixV (ixF (isN nm) t) = iv := ⟨_, rfl⟩
  rw [hiv]
  have HIV := Lib.hid hiv; clear hiv
  go_enter Try.func86, Try.ntmps86
  go_wp2_with fail
  go_loopw [8] (fun i wr => ∃ k : Nat, k ≤ n ∧ i = .int .i64 (k : Int) ∧ (∀ j (hj : j < t.length), j < k → isN nm t[j] = false) ∧ Below g w wr) (fun i _ => n - (intOf i).toNat)
  case atStart => exact ⟨0, Nat.zero_le _, rfl, fun j _ hj => by omega, Below.refl _ _⟩
  case round =>
    obtain ⟨k, hk, rfl, hall, hbw⟩ := hrel
    have HA := Lib.hid hall; have HBW := Lib.hid hbw; clear hall hbw
    by_cases hlt : k < n
    · have hkl : k < t.length := by rw [HN.out]; exact hlt
      obtain ⟨a, rfl, hab, hat⟩ := (hR.below (HBW.out.mono (by rw [← HG.out]; exact hB))).at_ hkl
      obtain ⟨x, hx⟩ : ∃ x, t[k] = x := ⟨_, rfl⟩
      rw [hx] at hat
      have HX := Lib.hid hx; clear hx
      obtain ⟨c0, A1, c1, h1, _, _⟩ := hat
      generalize x.2.length = m at h1
      have hsz := HBW.out.size
      have hbwr : b < wr.heap.size := by rw [HG.out] at hb; rw [HG.out] at hsz; omega
      have hcell : wr.cell? ⟨b, 0, none⟩ = some (strV nm) := (HBW.out.cell (p := ⟨b, 0, none⟩) (by rw [← HG.out]; exact hb)).trans HC.out
      have HCELL := Lib.hid hcell
      clear hcell
      cases hq : isN nm x with
      | true =>
        have HE : Hid (iv = (k : Int)) := Lib.hid (by rw [← HIV.out, ixF_at hkl (by rw [HX.out]; exact hq) fun j hj => HA.out j (by omega) hj]; rfl)
        have HQ := Lib.hid hq; clear hq
        go_wp2_with fail
        refine (find1 x.1 nm A1 m c1 b wr hbwr HCELL.out).mono ?_
        rintro e w2 ⟨rfl, hb2⟩
        have hv : decide (x.1 = nm) = true := HQ.out
        rw [hv]
        clear hv
        have HB2 := Lib.hid (HBW.out.trans (hb2.mono (by rw [HG.out] at hsz; exact hsz)))
        clear hb2
        go_wp2
        go_ret
        exact ⟨by rw [HE.out]; rfl, HB2.out⟩
      | false =>
        have HQ := Lib.hid hq; clear hq
        go_wp2_with fail
        refine (find1 x.1 nm A1 m c1 b wr hbwr HCELL.out).mono ?_
        rintro e w2 ⟨rfl, hb2⟩
        have hv : decide (x.1 = nm) = false := HQ.out
        rw [hv]
        clear hv
        have HB2 := Lib.hid (HBW.out.trans (hb2.mono (by rw [HG.out] at hsz; exact hsz)))
        clear hb2
        go_wp2
        go_roundw
        case rel =>
          exact ⟨k + 1, by omega, by go_num, fun j hjl hj => by
            by_cases e : j = k
            · subst e; rw [HX.out]; exact HQ.out
            · exact HA.out j hjl (by omega), HB2.out⟩
        case measure => simp [intOf]; omega
    · obtain rfl : k = n := by omega
      have HE : Hid (iv = -1) := Lib.hid (by rw [← HIV.out, ixF_no fun j hj => HA.out j hj (by rw [← HN.out]; exact hj)]; rfl)
      go_wp2
      go_ret
      exact ⟨by rw [HE.out]; rfl, HBW.out⟩

set_option maxHeartbeats 1000000 in
/-- slices.IndexFunc at the closure of place. -/
theorem Index_place (nm : List UInt8) (A : Option Addr) (c n b B : Nat) (t : TR) (w : World) (hn : t.length = n) (hln : n ≤ 3518437208800) (hB : B ≤ w.heap.size) (hR : RdT w B A t) (hb : b < w.heap.size) (hcb : w.cell? ⟨b, 0, none⟩ = some (strV nm)) :
    Calls Try.prog 86 #[.slice A n c, .func (.func 90) #[] #[.pointer (some ⟨b, 0, none⟩)]] w (IntEnd w (ixV (ixF (gtN nm) t))) := by
  have HN := Lib.hid hn; clear hn
  obtain ⟨g, hg⟩ : ∃ g, w.heap.size = g := ⟨_, rfl⟩
  unfold IntEnd
  rw [hg]
  have HG := Lib.hid hg; clear hg
  have HC := Lib.hid hcb; clear hcb
  obtain ⟨iv, hiv⟩ : ∃ iv, ixV (ixF (gtN nm) t) = iv := ⟨_, rfl⟩
  rw [hiv]
  have HIV := Lib.hid hiv; clear hiv
  go_enter Try.func86, Try.ntmps86
  go_wp2_with fail
  go_loopw [8] (fun i wr => ∃ k : Nat, k ≤ n ∧ i = .int .i64 (k : Int) ∧ (∀ j (hj : j < t.length), j < k → gtN nm t[j] = false) ∧ Below g w wr) (fun i _ => n - (intOf i).toNat)
  case atStart => exact ⟨0, Nat.zero_le _, rfl, fun j _ hj => by omega, Below.refl _ _⟩
  case round =>
    obtain ⟨k, hk, rfl, hall, hbw⟩ := hrel
    have HA := Lib.hid hall; have HBW := Lib.hid hbw; clear hall hbw
    by_cases hlt : k < n
    · have hkl : k < t.length := by rw [HN.out]; exact hlt
      obtain ⟨a, rfl, hab, hat⟩ := (hR.below (HBW.out.mono (by rw [← HG.out]; exact hB))).at_ hkl
      obtain ⟨x, hx⟩ : ∃ x, t[k] = x := ⟨_, rfl⟩
      rw [hx] at hat
      have HX := Lib.hid hx; clear hx
      obtain ⟨c0, A1, c1, h1, _, _⟩ := hat
      generalize x.2.length = m at h1
      have hsz := HBW.out.size
      have hbwr : b < wr.heap.size := by rw [HG.out] at hb; rw [HG.out] at hsz; omega
      have hcell : wr.cell? ⟨b, 0, none⟩ = some (strV nm) := (HBW.out.cell (p := ⟨b, 0, none⟩) (by rw [← HG.out]; exact hb)).trans HC.out
      have HCELL := Lib.hid hcell
      clear hcell
      cases hq : gtN nm x with
      | true =>
        have HE : Hid (iv = (k : Int)) := Lib.hid (by rw [← HIV.out, ixF_at hkl (by rw [HX.out]; exact hq) fun j hj => HA.out j (by omega) hj]; rfl)
        have HQ := Lib.hid hq; clear hq
        go_wp2_with fail
        refine (place1 x.1 nm A1 m c1 b wr hbwr HCELL.out).mono ?_
        rintro e w2 ⟨rfl, hb2⟩
        have hv : Op.bytesLess nm x.1 = true := HQ.out
        rw [hv]
        clear hv
        have HB2 := Lib.hid (HBW.out.trans (hb2.mono (by rw [HG.out] at hsz; exact hsz)))
        clear hb2
        go_wp2
        go_ret
        exact ⟨by rw [HE.out]; rfl, HB2.out⟩
      | false =>
        have HQ := Lib.hid hq; clear hq
        go_wp2_with fail
        refine (place1 x.1 nm A1 m c1 b wr hbwr HCELL.out).mono ?_
        rintro e w2 ⟨rfl, hb2⟩
        have hv : Op.bytesLess nm x.1 = false := HQ.out
        rw [hv]
        clear hv
        have HB2 := Lib.hid (HBW.out.trans (hb2.mono (by rw [HG.out] at hsz; exact hsz)))
        clear hb2
        go_wp2
        go_roundw
        case rel =>
          exact ⟨k + 1, by omega, by go_num, fun j hjl hj => by
            by_cases e : j = k
            · subst e; rw [HX.out]; exact HQ.out
            · exact HA.out j hjl (by omega), HB2.out⟩
        case measure => simp [intOf]; omega
    · obtain rfl : k = n := by omega
      have HE : Hid (iv = -1) := Lib.hid (by rw [← HIV.out, ixF_no fun j hj => HA.out j hj (by rw [← HN.out]; exact hj)]; rfl)
      go_wp2
      go_ret
      exact ⟨by rw [HE.out]; rfl, HBW.out⟩

theorem find (s : List UInt8) (A : Option Addr) (c n B : Nat) (t : TR) (w : World) (hn : t.length = n) (hln : n ≤ 3518437208800) (hB : B ≤ w.heap.size) (hR : RdT w B A t) :
    Calls Try.prog 76 #[.slice A n c, strV s] w (IntEnd w (ixV (ixF (isN s) t))) := by
  have HN := Lib.hid hn; clear hn
  obtain ⟨iv, hiv⟩ : ∃ iv, ixV (ixF (isN s) t) = iv := ⟨_, rfl⟩
  have hI := fun W hB hR hb hcb => Index_find s A c n w.heap.size B t W HN.out hln hB hR hb hcb
  rw [hiv] at hI ⊢
  have HI := Lib.hid hI
  clear hiv hI
  go_enter Try.func76, Try.ntmps76
  go_wp2_with fail
  refine (HI.out (w.alloc (.cells #[strV s] 9)) (Nat.le_trans hB (by simp)) (hR.below ((Below.refl _ _).alloc hB _)) (by simp) ((Blk.new w 9 #[strV s]).cell 0 rfl)).mono ?_
  rintro e w' ⟨rfl, hb⟩
  go_wp2
  go_ret
  exact ⟨rfl, ((Below.refl _ _).alloc (Nat.le_refl _) _).trans (hb.mono (by simp))⟩

theorem place (s : List UInt8) (A : Option Addr) (c n B : Nat) (t : TR) (w : World) (hn : t.length = n) (hln : n ≤ 3518437208800) (hB : B ≤ w.heap.size) (hR : RdT w B A t) :
    Calls Try.prog 82 #[.slice A n c, strV s] w (IntEnd w (((ixF (gtN s) t).getD n : Nat) : Int)) := by
  have HN := Lib.hid hn; clear hn
  have hI := fun W hB hR hb hcb => Index_place s A c n w.heap.size B t W HN.out hln hB hR hb hcb
  obtain ⟨o, ho⟩ : ∃ o, ixF (gtN s) t = o := ⟨_, rfl⟩
  rw [ho] at hI ⊢
  have HI := Lib.hid hI
  clear ho hI
  cases o with
  | none =>
    go_enter Try.func82, Try.ntmps82
    go_wp2_with fail
    refine (HI.out (w.alloc (.cells #[strV s] 9)) (Nat.le_trans hB (by simp)) (hR.below ((Below.refl _ _).alloc hB _)) (by simp) ((Blk.new w 9 #[strV s]).cell 0 rfl)).mono ?_
    rintro e w' ⟨rfl, hb⟩
    simp only [ixV]
    go_wp2
    go_ret
    exact ⟨rfl, ((Below.refl _ _).alloc (Nat.le_refl _) _).trans (hb.mono (by simp))⟩
  | some k =>
    go_enter Try.func82, Try.ntmps82
    go_wp2_with fail
    refine (HI.out (w.alloc (.cells #[strV s] 9)) (Nat.le_trans hB (by simp)) (hR.below ((Below.refl _ _).alloc hB _)) (by simp) ((Blk.new w 9 #[strV s]).cell 0 rfl)).mono ?_
    rintro e w' ⟨rfl, hb⟩
    simp only [ixV]
    go_wp2
    go_ret
    exact ⟨rfl, ((Below.refl _ _).alloc (Nat.le_refl _) _).trans (hb.mono (by simp))⟩

end Tr
end Go.Proofs.Ytfjllohhjpiphaa
