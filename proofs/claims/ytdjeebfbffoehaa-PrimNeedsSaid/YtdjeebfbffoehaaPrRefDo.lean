/-
  What the document's own Apply of layer 8 returns (walk).
-/
import Derived.Test.YtdjeebfbffoehaaPrRef2
import Derived.Test.YtdjeebfbffoehaaPrRefTurn
import Derived.Test.YtdjeebfbffoehaaTrRefDel
import Derived.Test.YtdjeebfbffoehaaTrRefPut
import Derived.Deep.RegionHeld3
namespace Go.Proofs.Ytdjeebfbffoehaa
open Go.RowKit
set_option linter.unusedVariables false
set_option linter.unusedSimpArgs false
namespace Pr
open Tx Df Sq Hk Tr

/-- How a call ends that changes a tree: the error and the tree. -/
def DoEnd (w : World) (r : Int × TR) (e : Ending) (w' : World) : Prop :=
  ∃ A k c, e = .returned (.tuple #[.slice A k c, .int .i64 r.1]) ∧ k ≤ c ∧ r.2.length = k ∧ RdT w' w'.heap.size A r.2 ∧ Below w.heap.size w w'
theorem doEnd_err {w w' : World} {r : Int × TR} {i : Int} (h : r = (i, [])) (hb : Below w.heap.size w w') : DoEnd w r (.returned (.tuple #[.slice none 0 0, .int .i64 i])) w' := by
  subst h
  exact ⟨none, 0, 0, rfl, Nat.le_refl _, rfl, .inl rfl, hb⟩
theorem doEnd_ok {w w' : World} {r : Int × TR} {P : TR} {A : Option Addr} {c : Nat} (h : r = (0, P)) (hc : P.length ≤ c) (hR : RdT w' w'.heap.size A P) (hb : Below w.heap.size w w') : DoEnd w r (.returned (.tuple #[.slice A P.length c, .int .i64 0])) w' := by
  subst h
  exact ⟨A, P.length, c, rfl, hc, rfl, hR, hb⟩
theorem rdT_mv {w w' : World} {A : Option Addr} {t : TR} (h : RdT w w.heap.size A t) (hb : Below w.heap.size w w') : RdT w' w'.heap.size A t := (h.below hb).up hb.size
theorem rdS_to {w w' : World} {A : Option Addr} {l : List (List UInt8)} (h : RdS w w.heap.size A l) (hb : Below w.heap.size w w') : RdS w' w'.heap.size A l := (Rd.below h hb).up hb.size
theorem below_to {w0 w w' : World} (h : Below w0.heap.size w0 w) (hb : Below w.heap.size w w') : Below w0.heap.size w0 w' := h.trans (hb.mono h.size)

/-- What a change does to a tree, from what is told of its file. -/
def doG (t : TR) (p : Ch) (g : Option (List (List UInt8))) : Int × TR :=
  match g with
  | none => (5, [])
  | some l =>
    if p.k = 1 then (if l = [] then (0, del t p.nm) else (5, []))
    else if p.k = 2 then (if (get t p.to).isSome then (5, []) else (0, put lt (del t p.nm) p.to l))
    else if lineE l p = 0 then (0, put lt t p.nm (lineL l p)) else (lineE l p, [])

theorem lightT_get {t : TR} {s : List UInt8} {l : List (List UInt8)} (h : lightT t = true) (hg : get t s = some l) : l.length ≤ 300 := by
  have hm := get_mem hg
  simp only [lightT, Bool.and_eq_true, decide_eq_true_eq, List.all_eq_true] at h
  have := (h.2 _ hm).1
  simp only [light, Bool.and_eq_true, decide_eq_true_eq] at this
  exact this.1
theorem lightP_h {p : Ch} (h : lightP p = true) : p.h.old.length ≤ 300 ∧ p.h.new.length ≤ 300 := by
  simp only [lightP, light, Bool.and_eq_true, decide_eq_true_eq] at h
  exact ⟨h.1.1.1, h.1.2.1⟩


set_option maxHeartbeats 4000000 in
set_option maxRecDepth 100000 in
theorem refApplyP (A0 : Option Addr) (n0 c0 : Nat) (A : Option Addr) (n c : Nat) (A' : Option Addr) (n' c' : Nat) (t : TR) (p : Ch) (w : World) (hl : lightT t = true) (hn0 : t.length = n0) (hp : lightP p = true) (hR : RdT w w.heap.size A0 t) (hv : PV w w.heap.size A n c A' n' c' p) :
    Calls Try.prog 13 #[.slice A0 n0 c0, prV p.k p.nm p.to p.h.pos A n c A' n' c'] w (DoEnd w (doP t p)) := by
  obtain ⟨h40, hs⟩ := lightT_small hl
  have hgl := fun s l hg => lightT_get (s := s) (l := l) hl hg
  obtain ⟨ho, hn⟩ := lightP_h hp
  obtain ⟨k, nm, to, h⟩ := p
  dsimp only at hv ho hn ⊢
  rw [hv.h.l] at ho
  rw [hv.h.l'] at hn
  have h9 : n0 ≤ 50000 := by omega
  obtain ⟨bm, hbm⟩ : ∃ b, mayP ⟨k, nm, to, h⟩ = b := ⟨_, rfl⟩
  obtain ⟨g, hg⟩ : ∃ g, get t nm = g := ⟨_, rfl⟩
  obtain ⟨g2, hg2⟩ : ∃ g, get t to = g := ⟨_, rfl⟩
  obtain ⟨D, hD⟩ : ∃ D, doP t ⟨k, nm, to, h⟩ = D := ⟨_, rfl⟩
  rw [hD]
  have hq0 : ∀ x ∈ h.old, x.length ≤ maxLen := hv.s
  have hq1 : ∀ x ∈ h.new, x.length ≤ maxLen := hv.s'
  have H1 := Lib.hid (fun w hB hv => refMayP A n c A' n' c' w.heap.size ⟨k, nm, to, h⟩ w bm hB hv hbm)
  have h2 := fun w hB hR => refGet nm A0 c0 n0 w.heap.size t w hn0 hs hB hR
  rw [hg] at h2
  have h3 := fun w hB hR => refGet to A0 c0 n0 w.heap.size t w hn0 hs hB hR
  rw [hg2] at h3
  have H4 := Lib.hid (fun (s : List UInt8) (A1 : Option Addr) (m1 c1 : Nat) (l : List (List UInt8)) w hm hm5 hR hR' => refPut s A0 A1 c0 n0 w.heap.size m1 c1 t l w hn0 hs h9 hm hm5 (Nat.le_refl _) hR hR')
  have H5 := Lib.hid (fun w hR => refDel nm A0 c0 n0 w.heap.size t w hn0 hs (Nat.le_refl _) hR h9)
  have H6 := Lib.hid (fun (A1 : Option Addr) (m1 c1 : Nat) (l : List (List UInt8)) w hm hc h1 hR hv => refApply A1 m1 c1 A n c A' n' c' w.heap.size l h w (Nat.le_refl _) hm hc h1 (Nat.le_trans ho (by decide)) (Nat.le_trans hn (by decide)) hR hv hq0 hq1)
  have HS := Lib.hid hs; have HV := Lib.hid hv; have HR := Lib.hid hR; have HBM := Lib.hid hbm; have HG := Lib.hid hg; have HG2 := Lib.hid hg2; have HD := Lib.hid hD; have HGL := Lib.hid hgl; have H2 := Lib.hid h2; have H3 := Lib.hid h3; have HN0 := Lib.hid hn0; have H40 := Lib.hid h40
  have HHO := Lib.hid ho; have HHN := Lib.hid hn
  have hbx : Below w.heap.size w (box w k nm to h.pos A n c A' n' c') := (Below.refl _ _).alloc (Nat.le_refl _) _
  obtain ⟨q, hq⟩ : ∃ q, h.pos = q := ⟨_, rfl⟩
  dsimp only at H1
  rw [hq] at H1 H6 hbx ⊢
  have HBX := Lib.hid hbx; have HQ := Lib.hid hq
  clear hgl hp hl hs hv hR hbm hg hg2 hD h2 h3 ho hn hq0 hq1 hn0 h40 h9 hbx hq
  go_enter Try.func13, Try.ntmps13
  go_wp2_with fail
  refine (H1.out (box w k nm to q A n c A' n' c') (Nat.le_refl _) (HV.out.mv HBX.out)).mono ?_
  rintro e w1 ⟨rfl, hb1⟩
  have b1 := (Blk.new w 28 #[.int .i64 k, strV nm, strV to, .int .i64 q, .slice A n c, .slice A' n' c']).below hb1 (by simp)
  have HB1 := Lib.hid (below_to HBX.out hb1)
  have B1 := Lib.hid b1
  have x0 : w1.cell? ⟨w.heap.size, 0, none⟩ = some (.int .i64 k) := b1.cell 0 rfl
  have x1 : w1.cell? ⟨w.heap.size, 1, none⟩ = some (strV nm) := b1.cell 1 rfl
  have x2 : w1.cell? ⟨w.heap.size, 2, none⟩ = some (strV to) := b1.cell 2 rfl
  have x3 : w1.cell? ⟨w.heap.size, 3, none⟩ = some (.int .i64 q) := b1.cell 3 rfl
  have x4 : w1.cell? ⟨w.heap.size, 4, none⟩ = some (.slice A n c) := b1.cell 4 rfl
  have x5 : w1.cell? ⟨w.heap.size, 5, none⟩ = some (.slice A' n' c') := b1.cell 5 rfl
  clear b1 hb1 H1
  cases bm with
  | false =>
    have HO : Hid (D = (1, [])) := Lib.hid (by rw [← HD.out]; unfold doP; rw [if_pos HBM.out])
    go_wp2
    go_ret2
    exact doEnd_err HO.out HB1.out
  | true =>
  have HD0 : Hid (doP t ⟨k, nm, to, h⟩ = if k = 0 then (if (get t nm).isSome then (5, []) else (0, put lt t nm [])) else doG t ⟨k, nm, to, h⟩ (get t nm)) := Lib.hid (by unfold doP; rw [if_neg (by rw [HBM.out]; decide)]; rfl)
  go_wp2_with fail
  refine (H2.out w1 (Nat.le_refl _) (rdT_mv HR.out HB1.out)).mono ?_
  rintro e w2 ⟨AL, cl, rfl, hcl, hrl, hb2⟩
  have hb02 := below_to HB1.out hb2
  have b2 := B1.out.below hb2 B1.out.lt
  have RL := Lib.hid hrl; have HB2 := Lib.hid hb02; have B2 := Lib.hid b2
  clear x0 x1 x2 x3 x4 x5 hrl hb2 hb02 H2 B1 HB1
  have x0 : w2.cell? ⟨w.heap.size, 0, none⟩ = some (.int .i64 k) := b2.cell 0 rfl
  have x1 : w2.cell? ⟨w.heap.size, 1, none⟩ = some (strV nm) := b2.cell 1 rfl
  have x2 : w2.cell? ⟨w.heap.size, 2, none⟩ = some (strV to) := b2.cell 2 rfl
  have x3 : w2.cell? ⟨w.heap.size, 3, none⟩ = some (.int .i64 q) := b2.cell 3 rfl
  have x4 : w2.cell? ⟨w.heap.size, 4, none⟩ = some (.slice A n c) := b2.cell 4 rfl
  have x5 : w2.cell? ⟨w.heap.size, 5, none⟩ = some (.slice A' n' c') := b2.cell 5 rfl
  clear b2
  go_wp2_with fail
  refine (H3.out w2 (Nat.le_refl _) (rdT_mv HR.out HB2.out)).mono ?_
  rintro e w3 ⟨A2, c2, rfl, hc2, hr2, hb3⟩
  have hb03 := below_to HB2.out hb3
  have b3 := B2.out.below hb3 B2.out.lt
  have rl3 := rdS_to RL.out hb3
  have RL3 := Lib.hid rl3; have HB3 := Lib.hid hb03; have B3 := Lib.hid b3
  clear x0 x1 x2 x3 x4 x5 hr2 hb3 hb03 H3 B2 HB2 RL rl3 hc2
  have x0 : w3.cell? ⟨w.heap.size, 0, none⟩ = some (.int .i64 k) := b3.cell 0 rfl
  have x1 : w3.cell? ⟨w.heap.size, 1, none⟩ = some (strV nm) := b3.cell 1 rfl
  have x2 : w3.cell? ⟨w.heap.size, 2, none⟩ = some (strV to) := b3.cell 2 rfl
  have x3 : w3.cell? ⟨w.heap.size, 3, none⟩ = some (.int .i64 q) := b3.cell 3 rfl
  have x4 : w3.cell? ⟨w.heap.size, 4, none⟩ = some (.slice A n c) := b3.cell 4 rfl
  have x5 : w3.cell? ⟨w.heap.size, 5, none⟩ = some (.slice A' n' c') := b3.cell 5 rfl
  clear b3
  have HRT : Hid (RdT w3 w3.heap.size A0 t) := Lib.hid (rdT_mv HR.out HB3.out)
  have HVV : Hid (PV w3 w3.heap.size A n c A' n' c' ⟨k, nm, to, h⟩) := Lib.hid (HV.out.mv HB3.out)
  clear HV HR
  by_cases hk0 : k = 0
  · subst hk0
    cases g with
    | some l =>
      have HO : Hid (D = (5, [])) := Lib.hid (by rw [← HD.out, HD0.out, if_pos rfl, HG.out]; rfl)
      go_wp2
      go_ret2
      exact doEnd_err HO.out HB3.out
    | none =>
      have HO : Hid (D = (0, put lt t nm [])) := Lib.hid (by rw [← HD.out, HD0.out, if_pos rfl, HG.out]; rfl)
      go_wp2_with fail
      refine (H4.out nm none 0 0 [] w3 rfl (by decide) HRT.out (.inl rfl)).mono ?_
      rintro e w4 ⟨A4, c4, rfl, hc4, hr4, hb4⟩
      have HC4 := Lib.hid hc4; have HR4 := Lib.hid hr4; have HB4 := Lib.hid (below_to HB3.out hb4)
      clear hc4 hr4 hb4 x0 x1 x2 x3 x4 x5
      go_wp2
      go_ret2
      exact doEnd_ok HO.out HC4.out HR4.out HB4.out
  · have e0 : (k == 0) = false := by rw [beq_eq_false_iff_ne]; exact hk0
    have HD1 : Hid (D = doG t ⟨k, nm, to, h⟩ g) := Lib.hid (by rw [← HD.out, HD0.out, if_neg hk0, HG.out])
    clear HD HD0
    cases g with
    | none =>
      have HO : Hid (D = (5, [])) := Lib.hid HD1.out
      go_wp2
      go_ret2
      exact doEnd_err HO.out HB3.out
    | some l =>
      have hll : l.length ≤ 300 := HGL.out nm l HG.out
      have HD2 : Hid (D = if k = 1 then (if l = [] then (0, del t nm) else (5, [])) else if k = 2 then (if (get t to).isSome then (5, []) else (0, put lt (del t nm) to l)) else if lineE l ⟨k, nm, to, h⟩ = 0 then (0, put lt t nm (lineL l ⟨k, nm, to, h⟩)) else (lineE l ⟨k, nm, to, h⟩, [])) := Lib.hid HD1.out
      clear HD1 HGL
      simp only [Option.getD_some, Option.isSome_some] at RL3 hcl ⊢
      obtain ⟨m, hm⟩ : ∃ m, l.length = m := ⟨_, rfl⟩
      rw [hm] at hcl hll ⊢
      have HM := Lib.hid hm; clear hm
      by_cases hk1 : k = 1
      · subst hk1
        by_cases hm0 : m = 0
        · subst hm0
          have hl0 : l = [] := List.length_eq_zero_iff.1 HM.out
          have HO : Hid (D = (0, del t nm)) := Lib.hid (by rw [HD2.out, if_pos rfl, if_pos hl0])
          clear HD2
          go_wp2_with fail
          refine (H5.out w3 HRT.out).mono ?_
          rintro e w4 ⟨A4, c4, rfl, hc4, hr4, hb4⟩
          have HC4 := Lib.hid hc4; have HR4 := Lib.hid hr4; have HB4 := Lib.hid (below_to HB3.out hb4)
          clear hc4 hr4 hb4 x0 x1 x2 x3 x4 x5
          go_wp2
          go_ret2
          exact doEnd_ok HO.out HC4.out HR4.out HB4.out
        · have hl0 : ¬ l = [] := fun e => hm0 (by rw [← HM.out, e]; rfl)
          have HO : Hid (D = (5, [])) := Lib.hid (by rw [HD2.out, if_pos rfl, if_neg hl0])
          clear HD2
          have hmp : 0 < m := by omega
          go_wp2
          go_ret2
          exact doEnd_err HO.out HB3.out
      · have e1 : (k == 1) = false := by rw [beq_eq_false_iff_ne]; exact hk1
        by_cases hk2 : k = 2
        · subst hk2
          cases g2 with
          | some l2 =>
            have HO : Hid (D = (5, [])) := Lib.hid (by rw [HD2.out, if_neg hk1, if_pos rfl, HG2.out]; rfl)
            clear HD2
            go_wp2
            go_ret2
            exact doEnd_err HO.out HB3.out
          | none =>
            have HO : Hid (D = (0, put lt (del t nm) to l)) := Lib.hid (by rw [HD2.out, if_neg hk1, if_pos rfl, HG2.out]; rfl)
            clear HD2
            have HB20 : Hid (Below w.heap.size w w3.drew) := Lib.hid (below_drewN HB3.out 1)
            obtain ⟨kd, hkd⟩ : ∃ kd, (del t nm).length = kd := ⟨_, rfl⟩
            have hsd : Small (del t nm) := ⟨Nat.le_trans (del_sub t nm).length_le HS.out.len, fun x hx => HS.out.all x ((del_sub t nm).subset hx)⟩
            have hk9 : kd ≤ 50000 := by rw [← hkd]; exact Nat.le_trans (del_sub t nm).length_le (Nat.le_trans H40.out (by decide))
            have hm5 : m ≤ 100000 := Nat.le_trans hll (by decide)
            have H7 : Hid (∀ A4 c4 w4, RdT w4 w4.heap.size A4 (del t nm) → RdS w4 w4.heap.size AL l → Calls Try.prog 30 #[.slice A4 kd c4, strV to, .slice AL m cl] w4 (TreeEnd w4 (put lt (del t nm) to l))) := Lib.hid (fun A4 c4 w4 hR hR' => refPut to A4 AL c4 kd w4.heap.size m cl (del t nm) l w4 hkd hsd hk9 HM.out hm5 (Nat.le_refl _) hR hR')
            have h8 := H5.out w3.drew (HRT.out.drewN 1)
            unfold TreeEnd at h8
            rw [hkd] at h8
            have H8 := Lib.hid h8
            have RLD : Hid (RdS w3.drew w3.drew.heap.size AL l) := Lib.hid (Rd.drewN RL3.out 1)
            have BD : Hid (Blk w3.drew w.heap.size 28 _) := Lib.hid (B3.out.drewN 1)
            clear h8 hsd hk9 hm5 hkd x3 x4 x5 H4 H5 H6 HVV
            go_wp2_with fail
            clear x0
            go_region_held3 (fun w' => w'.cell? ⟨w.heap.size, 1, none⟩ = some (strV nm) ∧ w'.cell? ⟨w.heap.size, 2, none⟩ = some (strV to))
              (first | go_keep | (exact ⟨y1, y2⟩) | (exact ⟨z1, z2⟩))
              (first
                | (go_at_call 31; refine H8.out.mono ?_; rintro e w4 ⟨A4, c4, rfl, hc4, hr4, hb4⟩;
                    have b4 := BD.out.below hb4 BD.out.lt; have y1 : w4.cell? ⟨w.heap.size, 1, none⟩ = some (strV nm) := b4.cell 1 rfl; have y2 : w4.cell? ⟨w.heap.size, 2, none⟩ = some (strV to) := b4.cell 2 rfl;
                    have HR4 := Lib.hid hr4; have RL4 := Lib.hid (rdS_to RLD.out hb4); have HB4 := Lib.hid (below_to HB20.out hb4); have B4 := Lib.hid b4; clear hr4 hb4 b4)
                | (go_at_call 30; refine (H7.out A4 c4 w4 HR4.out RL4.out).mono ?_; rintro e w5 ⟨A5, c5, rfl, hc5, hr5, hb5⟩;
                    have b5 := B4.out.below hb5 B4.out.lt; have z1 : w5.cell? ⟨w.heap.size, 1, none⟩ = some (strV nm) := b5.cell 1 rfl; have z2 : w5.cell? ⟨w.heap.size, 2, none⟩ = some (strV to) := b5.cell 2 rfl;
                    have HC5 := Lib.hid hc5; have HR5 := Lib.hid hr5; have HB5 := Lib.hid (below_to HB4.out hb5); clear hc5 hr5 hb5 b5))
            go_wp2
            go_ret2
            exact doEnd_ok HO.out HC5.out HR5.out HB5.out
        · have e2 : (k == 2) = false := by rw [beq_eq_false_iff_ne]; exact hk2
          by_cases hk3 : k = 3
          · subst hk3
            have HD3 : Hid (D = if applyE l h = 0 then (0, put lt t nm (applyL l h)) else (applyE l h, [])) := Lib.hid (by rw [HD2.out, if_neg hk1, if_neg hk2]; rfl)
            clear HD2
            go_wp2_with fail
            refine (H6.out AL m cl l w3 HM.out hcl (Nat.le_trans hll (by decide)) RL3.out HVV.out.h).mono ?_
            rintro e w4 ⟨A4, k4, c4, rfl, hc4, hl4, hr4, hb4⟩
            have b4 := B3.out.below hb4 B3.out.lt
            have HR4 := Lib.hid hr4; have HB4 := Lib.hid (below_to HB3.out hb4); have HRT4 := Lib.hid (rdT_mv HRT.out hb4)
            have x1' : w4.cell? ⟨w.heap.size, 1, none⟩ = some (strV nm) := b4.cell 1 rfl
            have hk45 : k4 ≤ 100000 := by have h1 := applyL_len (l := l) (h := h); rw [hl4, HM.out, HVV.out.h.l'] at h1; have := HHN.out; omega
            have HL4 := Lib.hid hl4
            clear hl4 hr4 hb4 x0 x1 x2 x3 x4 x5 B3 HVV RL3 b4
            by_cases hz : applyE l h = 0
            · have HO : Hid (D = (0, put lt t nm (applyL l h))) := Lib.hid (by rw [HD3.out, if_pos hz])
              rw [hz]
              clear HD3
              go_wp2_with fail
              refine (H4.out nm A4 k4 c4 (applyL l h) w4 HL4.out hk45 HRT4.out HR4.out).mono ?_
              rintro e w5 ⟨A5, c5, rfl, hc5, hr5, hb5⟩
              have HC5 := Lib.hid hc5; have HR5 := Lib.hid hr5; have HB5 := Lib.hid (below_to HB4.out hb5)
              clear hc5 hr5 hb5 x1'
              go_wp2
              go_ret2
              exact doEnd_ok HO.out HC5.out HR5.out HB5.out
            · have HO : Hid (D = (applyE l h, [])) := Lib.hid (by rw [HD3.out, if_neg hz])
              clear HD3
              generalize applyE l h = ae at *
              have ez : (ae == 0) = false := by rw [beq_eq_false_iff_ne]; exact hz
              go_wp2
              go_ret2
              exact doEnd_err HO.out HB4.out
          · have e3 : (k == 3) = false := by rw [beq_eq_false_iff_ne]; exact hk3
            have HD3 : Hid (D = if (if l = h.old then (0 : Int) else 5) = 0 then (0, put lt t nm h.new) else ((if l = h.old then (0 : Int) else 5), [])) := Lib.hid (by rw [HD2.out, if_neg hk1, if_neg hk2]; unfold lineE lineL; dsimp only; rw [if_neg hk3, if_neg hk3])
            clear HD2
            go_wp2_with fail
            refine (Tx.Same AL A cl c m n w3.heap.size l h.old w3 HM.out HVV.out.h.l (Nat.le_trans hll (by decide)) RL3.out HVV.out.h.r).mono ?_
            rintro e w4 ⟨rfl, d, rfl⟩
            have HB4 : Hid (Below w.heap.size w (w3.drewN d)) := Lib.hid (below_drewN HB3.out d)
            have b4 := B3.out.drewN d
            by_cases hz : l = h.old
            · have HO : Hid (D = (0, put lt t nm h.new)) := Lib.hid (by rw [HD3.out, if_pos hz, if_pos rfl])
              clear HD3
              have hdz : decide (l = h.old) = true := decide_eq_true hz
              rw [hdz]
              go_wp2_with fail
              refine (H4.out nm A' n' c' h.new (w3.drewN d) HVV.out.h.l' (by have := HHN.out; omega) (HRT.out.drewN d) (Rd.drewN HVV.out.h.r' d)).mono ?_
              rintro e w5 ⟨A5, c5, rfl, hc5, hr5, hb5⟩
              have HC5 := Lib.hid hc5; have HR5 := Lib.hid hr5; have HB5 := Lib.hid (below_to HB4.out hb5)
              clear hc5 hr5 hb5 x0 x1 x2 x3 x4 x5
              go_wp2
              go_ret2
              exact doEnd_ok HO.out HC5.out HR5.out HB5.out
            · have HO : Hid (D = (5, [])) := Lib.hid (by rw [HD3.out, if_neg hz]; rfl)
              clear HD3
              have hdz : decide (l = h.old) = false := decide_eq_false hz
              rw [hdz]
              go_wp2
              go_ret2
              exact doEnd_err HO.out HB4.out

end Pr
end Go.Proofs.Ytdjeebfbffoehaa
