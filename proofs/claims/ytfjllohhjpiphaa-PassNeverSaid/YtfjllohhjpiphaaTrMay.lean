/-
  What May of layer 7 returns (walk).
-/
import Derived.Test.YtfjllohhjpiphaaTrMem
import Derived.Test.YtfjllohhjpiphaaGX
import Derived.Deep.QuietTactic
import Derived.BigQuiet
set_option maxRecDepth 100000
namespace Go.Proofs.Ytfjllohhjpiphaa
open Go.RowKit
set_option linter.unusedVariables false
namespace Tr
open Tx

theorem ge_eq (s n : List UInt8) : Op.bytesLess s n = true → Op.bytesLess n s = false := fun h => lin.asym h

/-- What holds of the files gone through. -/
structure MayT (t : TR) (k : Nat) : Prop where
  m : ∀ x ∈ t.take k, name x.1 = true ∧ allMay x.2 = true
  u : upB Op.bytesLess ((t.take k).map (·.1)) = true
theorem MayT.zero (t : TR) : MayT t 0 := ⟨fun x hx => by simp at hx, rfl⟩
theorem MayT.done {t : TR} (h : MayT t t.length) (hl : t.length ≤ 30) : mayT t = true := by
  obtain ⟨h1, h2⟩ := h
  rw [List.take_length] at h1 h2
  unfold mayT
  rw [h2, Bool.and_true, Bool.and_eq_true, decide_eq_true_eq, List.all_eq_true]
  exact ⟨hl, fun x hx => by rw [Bool.and_eq_true]; exact h1 x hx⟩
theorem mayT_bad {t : TR} {x : FL} (hm : x ∈ t) (h : name x.1 = false ∨ allMay x.2 = false) : mayT t = false := by
  have : (t.all fun f => name f.1 && allMay f.2) = false := by
    rw [List.all_eq_false]
    exact ⟨x, hm, by rcases h with h | h <;> rw [h] <;> simp⟩
  unfold mayT
  rw [this]; simp
theorem mayT_fall {t : TR} {j : Nat} (hj : j + 1 < t.length) (h : Op.bytesLess t[j].1 t[j + 1].1 = false) : mayT t = false := by
  cases hm : mayT t with
  | false => rfl
  | true =>
    have hu := mayT_up hm
    have := List.pairwise_iff_getElem.1 hu j (j + 1) (by omega) hj (by omega)
    rw [h] at this; cases this
theorem MayT.first {t : TR} (hk : 0 < t.length) (h1 : name t[0].1 = true) (h2 : allMay t[0].2 = true) : MayT t 1 := by
  cases t with
  | nil => simp at hk
  | cons x t =>
    refine ⟨fun y hy => ?_, rfl⟩
    simp at hy
    subst hy
    exact ⟨h1, h2⟩
theorem MayT.next {t : TR} {j : Nat} (h : MayT t (j + 1)) (hj : j + 1 < t.length) (h1 : name t[j + 1].1 = true) (h2 : allMay t[j + 1].2 = true) (h3 : Op.bytesLess t[j].1 t[j + 1].1 = true) : MayT t (j + 1 + 1) := by
  refine ⟨fun y hy => ?_, ?_⟩
  · rw [take_snoc' hj] at hy
    rcases List.mem_append.1 hy with hy | hy
    · exact h.m y hy
    · simp at hy; subst hy; exact ⟨h1, h2⟩
  · have := h.u
    rw [List.map_take] at this ⊢
    rw [upB_take (by simpa using hj), this, Bool.true_and]
    simpa using h3

theorem NameV (x : List UInt8) (w : World) (n : Nat) (b : Bool) (hx : x.length ≤ maxLen) (hb : name x = b) : Calls Try.prog 33 #[strV x] (w.drewN n) fun e w' => e = .returned (.bool b) ∧ w' = w.drewN n := by
  have := Name ⟨x.toArray⟩ (w.drewN n) (by rw [size_strV]; exact hx)
  refine this.mono fun e w' ⟨h1, h2⟩ => ⟨?_, h2.symm⟩
  rw [h1, ← hb]
theorem AllV (A : Option Addr) (c n B : Nat) (ls : List (List UInt8)) (w : World) (m : Nat) (b : Bool) (hn : ls.length = n) (hR : RdS w B A ls) (hb : allMay ls = b) : Calls Try.prog 34 #[.slice A n c] (w.drewN m) fun e w' => e = .returned (.bool b) ∧ w' = w.drewN m := by
  refine (All A c n B ls (w.drewN m) hn (Rd.drewN hR m)).mono fun e w' ⟨h1, h2⟩ => ⟨?_, h2.symm⟩
  rw [h1, hb]

set_option maxRecDepth 100000 in
set_option maxHeartbeats 4000000 in
theorem May (A : Option Addr) (c n B : Nat) (t : TR) (w : World) (hn : t.length = n) (hfit : ∀ x ∈ t, x.1.length ≤ maxLen ∧ x.2.length ≤ maxLen) (hB : B ≤ w.heap.size) (hR : RdT w B A t) :
    Calls Try.prog 17 #[.slice A n c] w (BoolEnd w (mayT t)) := by
  have HN := Lib.hid hn; have R := Lib.hid hR; have HFIT := Lib.hid hfit
  clear hn hR hfit
  by_cases h30 : 30 < n
  · have HF : Hid (mayT t = false) := Lib.hid (by unfold mayT; rw [HN.out]; simp; omega)
    go_enter Try.func17, Try.ntmps17
    go_wp2
    go_ret
    exact ⟨ret_bool HF.out.symm, Below.refl _ _⟩
  · go_enter Try.func17, Try.ntmps17
    go_wp2
    go_loopw [10] (fun i wr => ∃ k : Nat, k ≤ n ∧ i = .int .i64 k ∧ MayT t k ∧ Below w.heap.size w wr) (fun i _ => n - (intOf i).toNat)
    case atStart => exact ⟨0, Nat.zero_le _, rfl, MayT.zero t, Below.refl _ _⟩
    case round =>
      obtain ⟨k, hk, rfl, hall, hbw⟩ := hrel
      have HA := Lib.hid hall; have HBW := Lib.hid hbw; clear hall hbw
      by_cases hlt : k < n
      · have hkt : k < t.length := by rw [HN.out]; exact hlt
        have RW := Lib.hid (RdT.below R.out (HBW.out.mono hB))
        have HBB : Hid (B ≤ wr.heap.size) := Lib.hid (Nat.le_trans hB HBW.out.size)
        obtain ⟨a, rfl, hab, hat⟩ := RW.out.at_ hkt
        have hfx := HFIT.out _ (List.getElem_mem hkt)
        obtain ⟨x, hx⟩ : ∃ x, t[k] = x := ⟨_, rfl⟩
        rw [hx] at hat hfx
        have HX := Lib.hid hx
        have HMEM : Hid (x ∈ t) := Lib.hid (by rw [← hx]; exact List.getElem_mem hkt)
        obtain ⟨c0, A1, c1, k1, _, r1⟩ := hat
        obtain ⟨m1, hm1⟩ : ∃ m, x.2.length = m := ⟨_, rfl⟩
        rw [hm1] at k1
        have hbl := Blk.new wr 48 #[strV x.1, .slice A1 m1 c1]
        have hba : Below wr.heap.size wr (wr.alloc (.cells #[strV x.1, .slice A1 m1 c1] 48)) := (Below.refl _ _).alloc (Nat.le_refl _) _
        obtain ⟨W, hW⟩ : ∃ W, wr.alloc (.cells #[strV x.1, .slice A1 m1 c1] 48) = W := ⟨_, rfl⟩
        rw [hW] at hbl hba
        have hnm := fun b d hb => NameV x.1 W d b hfx.1 hb
        have hal := fun b d hb => AllV A1 c1 m1 B x.2 W d b hm1 (Rd.below r1 (hba.mono HBB.out)) hb
        have HBL := Lib.hid hbl; have HBA := Lib.hid hba; have HNM := Lib.hid hnm; have HAL := Lib.hid hal
        have HBD : Hid (∀ d, Below w.heap.size w (W.drewN d)) := Lib.hid (fun d => below_drewN (HBW.out.trans (hba.mono HBW.out.size)) d)
        have HW := Lib.hid hW
        clear hbl hba hnm hal hm1 r1 hfx hW
        go_wp2_with fail
        rw [HW.out]
        clear HW
        obtain ⟨g, hg⟩ : ∃ g, wr.heap.size = g := ⟨_, rfl⟩
        rw [hg] at HBL ⊢
        clear hg
        have x0 : W.cell? ⟨g, 0, none⟩ = some (strV x.1) := HBL.out.cell 0 rfl
        have x1 : W.cell? ⟨g, 1, none⟩ = some (.slice A1 m1 c1) := HBL.out.cell 1 rfl
        cases h1 : name x.1 with
        | false =>
          have HM1 := Lib.hid (fun d => HNM.out false d h1)
          have HF := Lib.hid (mayT_bad HMEM.out (.inl h1))
          clear h1 hx
          go_quiet (with_reducible exact Calls.quiet_of_same (HM1.out _))
          go_wp2
          go_ret
          exact ⟨ret_bool HF.out.symm, HBD.out _⟩
        | true =>
          have HM1 := Lib.hid (fun d => HNM.out true d h1)
          cases h2 : allMay x.2 with
          | false =>
            have HM2 := Lib.hid (fun d => HAL.out false d h2)
            have HF := Lib.hid (mayT_bad HMEM.out (.inr h2))
            clear h1 h2 hx
            go_quiet (first | (with_reducible exact Calls.quiet_of_same (HM1.out _)) | (with_reducible exact Calls.quiet_of_same (HM2.out _)))
            go_wp2
            go_ret
            exact ⟨ret_bool HF.out.symm, HBD.out _⟩
          | true =>
            have HM2 := Lib.hid (fun d => HAL.out true d h2)
            rcases Nat.eq_zero_or_pos k with hk0 | hk0
            · subst hk0
              have HNX := Lib.hid (MayT.first hkt (by rw [hx]; exact h1) (by rw [hx]; exact h2))
              clear h1 h2 hx
              go_quiet (first | (with_reducible exact Calls.quiet_of_same (HM1.out _)) | (with_reducible exact Calls.quiet_of_same (HM2.out _)))
              go_wp2
              go_roundw
              case rel => exact ⟨1, by omega, rfl, HNX.out, HBD.out _⟩
              case measure => simp [intOf]; omega
            · obtain ⟨j, hj⟩ : ∃ j, k = j + 1 := ⟨k - 1, by omega⟩
              subst hj
              obtain ⟨a', ea, _, hat'⟩ := RW.out.at_ (show j < t.length by omega)
              injection ea with ea
              subst ea
              obtain ⟨y, hy⟩ : ∃ y, t[j] = y := ⟨_, rfl⟩
              rw [hy] at hat'
              have c0y := hat'.c0
              have y0 : W.cell? (a.add (j * 2)) = some (strV y.1) := (HBA.out.cell (p := a.add (j * 2)) (World.block_lt_of_cell? wr _ c0y)).trans c0y
              clear hat' c0y
              have w1 : IntKind.i64.wrap (((j + 1 : Nat) : Int) - 1) = (j : Int) := by rw [IntWalk.i64_in _ (by omega)]; omega
              have w1' : IntKind.i64.wrap ((j : Int) + 1 - 1) = (j : Int) := by rw [IntWalk.i64_in _ (by omega)]; omega
              have w2 : (0 : Int) < (j : Int) + 1 := by omega
              have w3 : (j : Int) < (n : Int) := by omega
              have w4 : (0 : Int) ≤ (j : Int) := by omega
              cases h3 : Op.bytesLess y.1 x.1 with
              | true =>
                have HNX := Lib.hid (MayT.next HA.out hkt (by rw [hx]; exact h1) (by rw [hx]; exact h2) (by rw [hx, hy]; exact h3))
                clear h1 h2 hx hy
                go_quiet (first | (with_reducible exact Calls.quiet_of_same (HM1.out _)) | (with_reducible exact Calls.quiet_of_same (HM2.out _)))
                clear w1 w1'
                go_wp2
                go_roundw
                case rel => exact ⟨j + 1 + 1, by omega, by go_num, HNX.out, HBD.out _⟩
                case measure => simp [intOf]; omega
              | false =>
                have HF := Lib.hid (mayT_fall hkt (by rw [hx, hy]; exact h3))
                clear h1 h2 hx hy
                go_quiet (first | (with_reducible exact Calls.quiet_of_same (HM1.out _)) | (with_reducible exact Calls.quiet_of_same (HM2.out _)))
                clear w1 w1'
                go_wp2
                go_ret
                exact ⟨ret_bool HF.out.symm, HBD.out _⟩
      · obtain rfl : k = n := by omega
        have HF : Hid (mayT t = true) := Lib.hid (by have := HA.out; rw [← HN.out] at this; exact this.done (by rw [HN.out]; omega))
        go_wp2
        go_ret
        exact ⟨ret_bool HF.out.symm, HBW.out⟩

end Tr
end Go.Proofs.Ytfjllohhjpiphaa
