/-
  What the document's own none, May, Same and Idle of layer 8 return, and the law's Light (walks).
-/
import Derived.Test.YtfjllohhjpiphaaPrMem
import Derived.Test.YtfjllohhjpiphaaHkRef
import Derived.Test.YtfjllohhjpiphaaGQ
set_option maxRecDepth 100000
namespace Go.Proofs.Ytfjllohhjpiphaa
open Go.RowKit
set_option linter.unusedVariables false
set_option linter.unusedSimpArgs false
namespace Pr
open Tx Df Sq Hk Tr

theorem kinds (k : Int) : k = 0 ∨ k = 1 ∨ k = 2 ∨ k = 3 ∨ k = 4 ∨ ((k == 0) = false ∧ (k == 1) = false ∧ (k == 2) = false ∧ (k == 3) = false ∧ (k == 4) = false) := by
  by_cases h0 : k = 0
  · exact .inl h0
  by_cases h1 : k = 1
  · exact .inr (.inl h1)
  by_cases h2 : k = 2
  · exact .inr (.inr (.inl h2))
  by_cases h3 : k = 3
  · exact .inr (.inr (.inr (.inl h3)))
  by_cases h4 : k = 4
  · exact .inr (.inr (.inr (.inr (.inl h4))))
  exact .inr (.inr (.inr (.inr (.inr ⟨beq_eq_false_iff_ne.2 h0, beq_eq_false_iff_ne.2 h1, beq_eq_false_iff_ne.2 h2, beq_eq_false_iff_ne.2 h3, beq_eq_false_iff_ne.2 h4⟩))))

theorem RefNameB (x : List UInt8) (w : World) (b : Bool) (hx : x.length ≤ maxLen) (hb : name x = b) : Calls Try.prog 46 #[strV x] w fun e w' => e = .returned (.bool b) ∧ w = w' := by
  have := RefName ⟨x.toArray⟩ w (by rw [size_strV]; exact hx)
  rw [← hb]
  simpa using this

/-- The box of a change. -/
abbrev box (w : World) (k : Int) (nm to : List UInt8) (q : Int) (A : Option Addr) (n c : Nat) (A' : Option Addr) (n' c' : Nat) : World := w.alloc (.cells #[.int .i64 k, strV nm, strV to, .int .i64 q, .slice A n c, .slice A' n' c'] 26)

set_option maxHeartbeats 1000000 in
theorem refNone (A : Option Addr) (n c : Nat) (A' : Option Addr) (n' c' B : Nat) (h : HU) (w : World) (b : Bool) (hB : B ≤ w.heap.size) (hv : HV w B A n c A' n' c' h) (hb : noH h = b) :
    Calls Try.prog 48 #[hkV h.pos A n c A' n' c'] w (TestEnd w b) := by
  obtain ⟨l, l', k, k', m, m', r, r', p⟩ := hv
  have HB : Hid (b = (decide (h.pos = 0) && (decide (n = 0) && decide (n' = 0)))) := Lib.hid (by rw [← hb, ← l, ← l']; rfl)
  have hbel : Below w.heap.size w (w.alloc (.cells #[.int .i64 h.pos, .slice A n c, .slice A' n' c'] 24)) := (Below.refl _ _).alloc (Nat.le_refl _) _
  have HBEL := Lib.hid hbel
  clear l l' r r' hb hbel
  generalize h.pos = q at *
  by_cases h0 : q = 0
  · subst h0
    by_cases h1 : n = 0
    · subst h1
      by_cases h2 : n' = 0
      · subst h2
        go_enter Try.func48, Try.ntmps48
        go_wp2
        go_ret
        exact ⟨ret_bool (by rw [HB.out]; rfl), HBEL.out⟩
      · have e2 : ((n' : Int) == 0) = false := by rw [beq_eq_false_iff_ne]; omega
        go_enter Try.func48, Try.ntmps48
        go_wp2
        go_ret
        exact ⟨ret_bool (by rw [HB.out, decide_eq_false h2]; rfl), HBEL.out⟩
    · have e1 : ((n : Int) == 0) = false := by rw [beq_eq_false_iff_ne]; omega
      go_enter Try.func48, Try.ntmps48
      go_wp2
      go_ret
      exact ⟨ret_bool (by rw [HB.out, decide_eq_false h1]; simp), HBEL.out⟩
  · have e0 : (q == 0) = false := by rw [beq_eq_false_iff_ne]; exact h0
    go_enter Try.func48, Try.ntmps48
    go_wp2
    go_ret
    exact ⟨ret_bool (by rw [HB.out, decide_eq_false h0]; simp), HBEL.out⟩


set_option maxHeartbeats 4000000 in
theorem refMayP (A : Option Addr) (n c : Nat) (A' : Option Addr) (n' c' B : Nat) (p : Ch) (w : World) (mb : Bool) (hB : B ≤ w.heap.size) (hv : PV w B A n c A' n' c' p) (hmb : mayP p = mb) :
    Calls Try.prog 27 #[prV p.k p.nm p.to p.h.pos A n c A' n' c'] w (TestEnd w mb) := by
  obtain ⟨k, nm, to, h⟩ := p
  obtain ⟨vh, vk, vn, vt, vs, vs'⟩ := hv
  dsimp only at vh vk vn vt vs vs' ⊢
  obtain ⟨bn, hbn⟩ : ∃ b, name nm = b := ⟨_, rfl⟩
  obtain ⟨bt, hbt⟩ : ∃ b, name to = b := ⟨_, rfl⟩
  obtain ⟨bh, hbh⟩ : ∃ b, mayH h = b := ⟨_, rfl⟩
  obtain ⟨bo, hbo⟩ : ∃ b, noH h = b := ⟨_, rfl⟩
  have H1 := Lib.hid (fun w => RefNameB nm w bn vn hbn)
  have H2 := Lib.hid (fun w => RefNameB to w bt vt hbt)
  have h3 := fun w hB hv => refMay A n c A' n' c' B h w hB hv vs vs'
  rw [hbh] at h3
  have h4 := fun w hB hv => refNone A n c A' n' c' B h w bo hB hv hbo
  have hbx : Below w.heap.size w (box w k nm to h.pos A n c A' n' c') := (Below.refl _ _).alloc (Nat.le_refl _) _
  have HVH := Lib.hid vh; have HMB := Lib.hid hmb; have HBN := Lib.hid hbn; have HBT := Lib.hid hbt; have HBH := Lib.hid hbh; have HBO := Lib.hid hbo; have HBX := Lib.hid hbx
  obtain ⟨q, hq⟩ : ∃ q, h.pos = q := ⟨_, rfl⟩
  rw [hq] at h3 h4 HBX ⊢
  have HQ := Lib.hid hq
  have H3 := Lib.hid h3; have H4 := Lib.hid h4
  clear vh vn vt vs vs' hbn hbt hbh hbo h3 h4 hmb hbx hq
  go_enter Try.func27, Try.ntmps27
  go_wp2_with fail
  refine (H1.out _).mono ?_
  rintro e w1 ⟨rfl, rfl⟩
  go_wp2_with fail
  refine (H2.out _).mono ?_
  rintro e w1 ⟨rfl, rfl⟩
  go_wp2_with fail
  refine (H3.out (box w k nm to q A n c A' n' c') (Nat.le_trans hB HBX.out.size) (HVH.out.below (HBX.out.mono hB))).mono ?_
  rintro e w1 ⟨rfl, hb1⟩
  have b1 := (Blk.new w 26 #[.int .i64 k, strV nm, strV to, .int .i64 q, .slice A n c, .slice A' n' c']).below hb1 (by simp)
  have hb01 : Below w.heap.size w w1 := HBX.out.trans (hb1.mono HBX.out.size)
  have HB01 := Lib.hid hb01
  have HB1 := Lib.hid b1
  have x3 : w1.cell? ⟨w.heap.size, 3, none⟩ = some (.int .i64 q) := b1.cell 3 rfl
  have x4 : w1.cell? ⟨w.heap.size, 4, none⟩ = some (.slice A n c) := b1.cell 4 rfl
  have x5 : w1.cell? ⟨w.heap.size, 5, none⟩ = some (.slice A' n' c') := b1.cell 5 rfl
  clear b1 hb1 hb01
  go_wp2_with fail
  refine (H4.out w1 (Nat.le_trans hB HB01.out.size) (HVH.out.below (HB01.out.mono hB))).mono ?_
  rintro e w2 ⟨rfl, hb2⟩
  have b2 := HB1.out.below hb2 HB1.out.lt
  have hb02 : Below w.heap.size w w2 := HB01.out.trans (hb2.mono HB01.out.size)
  have HB02 := Lib.hid hb02
  clear x3 x4 x5 HB1 HB01 HBX
  have x0 : w2.cell? ⟨w.heap.size, 0, none⟩ = some (.int .i64 k) := b2.cell 0 rfl
  have x1 : w2.cell? ⟨w.heap.size, 1, none⟩ = some (strV nm) := b2.cell 1 rfl
  have x2 : w2.cell? ⟨w.heap.size, 2, none⟩ = some (strV to) := b2.cell 2 rfl
  have x3 : w2.cell? ⟨w.heap.size, 3, none⟩ = some (.int .i64 q) := b2.cell 3 rfl
  clear b2 hb2 hb02 H1 H2 H3 H4 HVH
  rcases kinds k with rfl | rfl | rfl | rfl | rfl | ⟨e0, e1, e2, e3, e4⟩
  · cases bn with
    | false =>
      have HO : Hid (mb = false) := Lib.hid (by rw [← HMB.out]; simp [mayP, HBN.out, HBT.out, HBH.out, HBO.out])
      clear HMB
      go_wp2
      go_ret
      exact ⟨ret_bool (by rw [HO.out]), HB02.out⟩
    | true =>
      by_cases ht : to = []
      · subst ht
        cases bo with
        | false =>
          have HO : Hid (mb = false) := Lib.hid (by rw [← HMB.out]; simp [mayP, HBN.out, HBT.out, HBH.out, HBO.out])
          clear HMB
          go_wp2
          go_ret
          exact ⟨ret_bool (by rw [HO.out]), HB02.out⟩
        | true =>
          have HO : Hid (mb = true) := Lib.hid (by rw [← HMB.out]; simp [mayP, HBN.out, HBT.out, HBH.out, HBO.out])
          clear HMB
          go_wp2
          go_ret
          exact ⟨ret_bool (by rw [HO.out]), HB02.out⟩
      · have et : (to == []) = false := by simpa using ht
        have HO : Hid (mb = false) := Lib.hid (by rw [← HMB.out]; simp [mayP, HBN.out, HBT.out, HBH.out, HBO.out, ht])
        clear HMB
        go_wp2
        go_ret
        exact ⟨ret_bool (by rw [HO.out]), HB02.out⟩
  · cases bn with
    | false =>
      have HO : Hid (mb = false) := Lib.hid (by rw [← HMB.out]; simp [mayP, HBN.out, HBT.out, HBH.out, HBO.out])
      clear HMB
      go_wp2
      go_ret
      exact ⟨ret_bool (by rw [HO.out]), HB02.out⟩
    | true =>
      by_cases ht : to = []
      · subst ht
        cases bo with
        | false =>
          have HO : Hid (mb = false) := Lib.hid (by rw [← HMB.out]; simp [mayP, HBN.out, HBT.out, HBH.out, HBO.out])
          clear HMB
          go_wp2
          go_ret
          exact ⟨ret_bool (by rw [HO.out]), HB02.out⟩
        | true =>
          have HO : Hid (mb = true) := Lib.hid (by rw [← HMB.out]; simp [mayP, HBN.out, HBT.out, HBH.out, HBO.out])
          clear HMB
          go_wp2
          go_ret
          exact ⟨ret_bool (by rw [HO.out]), HB02.out⟩
      · have et : (to == []) = false := by simpa using ht
        have HO : Hid (mb = false) := Lib.hid (by rw [← HMB.out]; simp [mayP, HBN.out, HBT.out, HBH.out, HBO.out, ht])
        clear HMB
        go_wp2
        go_ret
        exact ⟨ret_bool (by rw [HO.out]), HB02.out⟩
  · cases bn with
    | false =>
      have HO : Hid (mb = false) := Lib.hid (by rw [← HMB.out]; simp [mayP, HBN.out, HBT.out, HBH.out, HBO.out])
      clear HMB
      go_wp2
      go_ret
      exact ⟨ret_bool (by rw [HO.out]), HB02.out⟩
    | true =>
      cases bt with
      | false =>
        have HO : Hid (mb = false) := Lib.hid (by rw [← HMB.out]; simp [mayP, HBN.out, HBT.out, HBH.out, HBO.out])
        clear HMB
        go_wp2
        go_ret
        exact ⟨ret_bool (by rw [HO.out]), HB02.out⟩
      | true =>
        by_cases ht : to = nm
        · have et : (to == nm) = true := by simpa using ht
          have HO : Hid (mb = false) := Lib.hid (by rw [← HMB.out]; simp [mayP, HBN.out, HBT.out, HBH.out, HBO.out, ht])
          clear HMB
          go_wp2
          go_ret
          exact ⟨ret_bool (by rw [HO.out]), HB02.out⟩
        · have et : (to == nm) = false := by simpa using ht
          cases bo with
          | false =>
            have HO : Hid (mb = false) := Lib.hid (by rw [← HMB.out]; simp [mayP, HBN.out, HBT.out, HBH.out, HBO.out])
            clear HMB
            go_wp2
            go_ret
            exact ⟨ret_bool (by rw [HO.out]), HB02.out⟩
          | true =>
            have HO : Hid (mb = true) := Lib.hid (by rw [← HMB.out]; simp [mayP, HBN.out, HBT.out, HBH.out, HBO.out, ht])
            clear HMB
            go_wp2
            go_ret
            exact ⟨ret_bool (by rw [HO.out]), HB02.out⟩
  · cases bn with
    | false =>
      have HO : Hid (mb = false) := Lib.hid (by rw [← HMB.out]; simp [mayP, HBN.out, HBT.out, HBH.out, HBO.out])
      clear HMB
      go_wp2
      go_ret
      exact ⟨ret_bool (by rw [HO.out]), HB02.out⟩
    | true =>
      by_cases ht : to = []
      · subst ht
        cases bh with
        | false =>
          have HO : Hid (mb = false) := Lib.hid (by rw [← HMB.out]; simp [mayP, HBN.out, HBT.out, HBH.out, HBO.out])
          clear HMB
          go_wp2
          go_ret
          exact ⟨ret_bool (by rw [HO.out]), HB02.out⟩
        | true =>
          have HO : Hid (mb = true) := Lib.hid (by rw [← HMB.out]; simp [mayP, HBN.out, HBT.out, HBH.out, HBO.out])
          clear HMB
          go_wp2
          go_ret
          exact ⟨ret_bool (by rw [HO.out]), HB02.out⟩
      · have et : (to == []) = false := by simpa using ht
        have HO : Hid (mb = false) := Lib.hid (by rw [← HMB.out]; simp [mayP, HBN.out, HBT.out, HBH.out, HBO.out, ht])
        clear HMB
        go_wp2
        go_ret
        exact ⟨ret_bool (by rw [HO.out]), HB02.out⟩
  · cases bn with
    | false =>
      have HO : Hid (mb = false) := Lib.hid (by rw [← HMB.out]; simp [mayP, HBN.out, HBT.out, HBH.out, HBO.out])
      clear HMB
      go_wp2
      go_ret
      exact ⟨ret_bool (by rw [HO.out]), HB02.out⟩
    | true =>
      by_cases ht : to = []
      · subst ht
        cases bh with
        | false =>
          have HO : Hid (mb = false) := Lib.hid (by rw [← HMB.out]; simp [mayP, HBN.out, HBT.out, HBH.out, HBO.out])
          clear HMB
          go_wp2
          go_ret
          exact ⟨ret_bool (by rw [HO.out]), HB02.out⟩
        | true =>
          by_cases h0 : q = 0
          · have h00 : h.pos = 0 := by rw [HQ.out]; exact h0
            have e0 : (q == 0) = true := by simpa using h0
            have HO : Hid (mb = true) := Lib.hid (by rw [← HMB.out]; simp [mayP, HBN.out, HBT.out, HBH.out, HBO.out, h00])
            clear HMB
            go_wp2
            go_ret
            exact ⟨ret_bool (by rw [HO.out]), HB02.out⟩
          · have h00 : ¬ h.pos = 0 := by rw [HQ.out]; exact h0
            have e0 : (q == 0) = false := by simpa using h0
            have HO : Hid (mb = false) := Lib.hid (by rw [← HMB.out]; simp [mayP, HBN.out, HBT.out, HBH.out, HBO.out, h00])
            clear HMB
            go_wp2
            go_ret
            exact ⟨ret_bool (by rw [HO.out]), HB02.out⟩
      · have et : (to == []) = false := by simpa using ht
        have HO : Hid (mb = false) := Lib.hid (by rw [← HMB.out]; simp [mayP, HBN.out, HBT.out, HBH.out, HBO.out, ht])
        clear HMB
        go_wp2
        go_ret
        exact ⟨ret_bool (by rw [HO.out]), HB02.out⟩
  · have HO : Hid (mb = false) := Lib.hid (by
      rw [← HMB.out]
      rw [beq_eq_false_iff_ne] at e0 e1 e2 e3 e4
      simp [mayP, e0, e1, e2, e3, e4])
    clear HMB
    go_wp2
    go_ret
    exact ⟨ret_bool (by rw [HO.out]), HB02.out⟩


end Pr
end Go.Proofs.Ytfjllohhjpiphaa
