/-
  What the program's own Apply of layer 8 returns, and the methods that it calls (walks).
-/
import Derived.Test.YtbiiabfhngdeiaaPrMay
import Derived.Test.YtbiiabfhngdeiaaGR
import Derived.Test.YtbiiabfhngdeiaaGT
import Derived.Test.YtbiiabfhngdeiaaGU
import Derived.Test.YtbiiabfhngdeiaaGH
import Derived.Deep.RegionHeld3
import Derived.Deep.Cut
import Derived.Laws.EntriesVeiled
set_option maxRecDepth 100000
namespace Go.Proofs.Ytbiiabfhngdeiaa
open Go.RowKit
set_option linter.unusedVariables false
set_option linter.unusedSimpArgs false
namespace Pr
open Tx Df Sq Hk Tr

theorem wide_get {t : TR} {s : List UInt8} {l : List (List UInt8)} (h : Wide t) (hg : get t s = some l) : l.length ≤ 8796093021952 := h.all _ (get_mem hg)
theorem wide_del {t : TR} (h : Wide t) (s : List UInt8) : Wide (del t s) := ⟨Nat.le_trans (del_sub t s).length_le h.len, fun x hx => h.all x ((del_sub t s).subset hx)⟩


set_option maxRecDepth 100000 in
set_option maxHeartbeats 2000000 in
theorem addM (A0 : Option Addr) (n0 c0 : Nat) (A : Option Addr) (n c : Nat) (A' : Option Addr) (n' c' : Nat) (k : Int) (nm to : List UInt8) (q : Int) (t : TR) (w : World) (D : Int × TR) (hs : Wide t) (hn0 : t.length = n0) (hR : RdT w w.heap.size A0 t) (hD : (if (get t nm).isSome then ((5 : Int), ([] : TR)) else (0, put lt t nm [])) = D) :
    Calls Try.prog 74 #[prV k nm to q A n c A' n' c', .slice A0 n0 c0] w (DoEnd w D) := by
  have hbx := below_box1 w (.cells #[.int .i64 k, strV nm, strV to, .int .i64 q, .slice A n c, .slice A' n' c'] 99)
  obtain ⟨g, hg⟩ : ∃ g, get t nm = g := ⟨_, rfl⟩
  rw [hg] at hD
  have h2 := fun w1 hB hR => Get nm A0 c0 n0 w.heap.size t w1 hn0 hs hB hR
  rw [hg] at h2
  have hgl : ∀ l, g = some l → l.length ≤ 8796093021952 := fun l e => wide_get hs (hg.trans e)
  have B0 := Lib.hid (Blk.new w 99 #[.int .i64 k, strV nm, strV to, .int .i64 q, .slice A n c, .slice A' n' c'])
  have H2 := Lib.hid h2; have HBX := Lib.hid hbx; have HD := Lib.hid hD; have HG := Lib.hid hg; have HGL := Lib.hid hgl; have HS := Lib.hid hs; have HN0 := Lib.hid hn0; have HR := Lib.hid hR
  have h4 := fun (s : List UInt8) (A1 : Option Addr) (m1 c1 : Nat) (l : List (List UInt8)) w1 hm hm5 hR hR' => Put s A0 A1 c0 n0 w1.heap.size m1 c1 t l w1 hn0 hs hm hm5 (Nat.le_refl _) hR hR'
  have H4 := Lib.hid h4
  clear h4
  clear h2 hbx hD hg hgl hs hn0 hR
  go_enter Try.func74, Try.ntmps74
  go_wp2_with fail
  refine (H2.out _ HBX.out.size (HR.out.below HBX.out)).mono ?_
  rintro e w1 ⟨AL, cl, rfl, hcl, hrl, hb1⟩
  have b1 := B0.out.below hb1 B0.out.lt
  have RL := Lib.hid hrl; have HB1 := Lib.hid (below_via HBX.out hb1); have B1 := Lib.hid b1
  clear hrl hb1 H2 B0 HBX
  have x0 : w1.cell? ⟨w.heap.size, 0, none⟩ = some (.int .i64 k) := b1.cell 0 rfl
  have x1 : w1.cell? ⟨w.heap.size, 1, none⟩ = some (strV nm) := b1.cell 1 rfl
  have x2 : w1.cell? ⟨w.heap.size, 2, none⟩ = some (strV to) := b1.cell 2 rfl
  have x3 : w1.cell? ⟨w.heap.size, 3, none⟩ = some (.int .i64 q) := b1.cell 3 rfl
  have x4 : w1.cell? ⟨w.heap.size, 4, none⟩ = some (.slice A n c) := b1.cell 4 rfl
  have x5 : w1.cell? ⟨w.heap.size, 5, none⟩ = some (.slice A' n' c') := b1.cell 5 rfl
  clear b1
  cases g with
  | some l =>
    have HO : Hid (D = (5, [])) := Lib.hid (by rw [← HD.out]; rfl)
    go_wp2
    go_ret2
    exact doEnd_err HO.out HB1.out
  | none =>
    have HO : Hid ((0, put lt t nm []) = D) := Lib.hid (by rw [← HD.out]; rfl)
    go_wp2_with fail
    refine (H4.out nm none 0 0 [] w1 rfl (by decide) (rdT_mv HR.out HB1.out) (.inl rfl)).mono ?_
    rintro e w4 ⟨A4, c4, rfl, hc4, hr4, hb4⟩
    have HC4 := Lib.hid hc4; have HR4 := Lib.hid hr4; have HB4 := Lib.hid (below_to HB1.out hb4)
    clear hc4 hr4 hb4
    go_wp2
    go_ret2
    exact doEnd_ok HO.out.symm HC4.out HR4.out HB4.out

set_option maxRecDepth 100000 in
set_option maxHeartbeats 2000000 in
theorem removeM (A0 : Option Addr) (n0 c0 : Nat) (A : Option Addr) (n c : Nat) (A' : Option Addr) (n' c' : Nat) (k : Int) (nm to : List UInt8) (q : Int) (t : TR) (w : World) (D : Int × TR) (hs : Wide t) (hn0 : t.length = n0) (hR : RdT w w.heap.size A0 t) (hD : (match get t nm with | none => ((5 : Int), ([] : TR)) | some l => if l = [] then (0, del t nm) else (5, [])) = D) :
    Calls Try.prog 75 #[prV k nm to q A n c A' n' c', .slice A0 n0 c0] w (DoEnd w D) := by
  have hbx := below_box1 w (.cells #[.int .i64 k, strV nm, strV to, .int .i64 q, .slice A n c, .slice A' n' c'] 99)
  obtain ⟨g, hg⟩ : ∃ g, get t nm = g := ⟨_, rfl⟩
  rw [hg] at hD
  have h2 := fun w1 hB hR => Get nm A0 c0 n0 w.heap.size t w1 hn0 hs hB hR
  rw [hg] at h2
  have hgl : ∀ l, g = some l → l.length ≤ 8796093021952 := fun l e => wide_get hs (hg.trans e)
  have B0 := Lib.hid (Blk.new w 99 #[.int .i64 k, strV nm, strV to, .int .i64 q, .slice A n c, .slice A' n' c'])
  have H2 := Lib.hid h2; have HBX := Lib.hid hbx; have HD := Lib.hid hD; have HG := Lib.hid hg; have HGL := Lib.hid hgl; have HS := Lib.hid hs; have HN0 := Lib.hid hn0; have HR := Lib.hid hR
  have h5 := fun w1 hR => Del nm A0 c0 n0 w1.heap.size t w1 hn0 hs (Nat.le_refl _) hR
  have H5 := Lib.hid h5
  clear h5
  clear h2 hbx hD hg hgl hs hn0 hR
  go_enter Try.func75, Try.ntmps75
  go_wp2_with fail
  refine (H2.out _ HBX.out.size (HR.out.below HBX.out)).mono ?_
  rintro e w1 ⟨AL, cl, rfl, hcl, hrl, hb1⟩
  have b1 := B0.out.below hb1 B0.out.lt
  have RL := Lib.hid hrl; have HB1 := Lib.hid (below_via HBX.out hb1); have B1 := Lib.hid b1
  clear hrl hb1 H2 B0 HBX
  have x0 : w1.cell? ⟨w.heap.size, 0, none⟩ = some (.int .i64 k) := b1.cell 0 rfl
  have x1 : w1.cell? ⟨w.heap.size, 1, none⟩ = some (strV nm) := b1.cell 1 rfl
  have x2 : w1.cell? ⟨w.heap.size, 2, none⟩ = some (strV to) := b1.cell 2 rfl
  have x3 : w1.cell? ⟨w.heap.size, 3, none⟩ = some (.int .i64 q) := b1.cell 3 rfl
  have x4 : w1.cell? ⟨w.heap.size, 4, none⟩ = some (.slice A n c) := b1.cell 4 rfl
  have x5 : w1.cell? ⟨w.heap.size, 5, none⟩ = some (.slice A' n' c') := b1.cell 5 rfl
  clear b1
  cases g with
  | none =>
    have HO : Hid (D = (5, [])) := Lib.hid (by rw [← HD.out])
    go_wp2
    go_ret2
    exact doEnd_err HO.out HB1.out
  | some l =>
    have hll : l.length ≤ 8796093021952 := HGL.out l rfl
    clear HGL
    simp only [Option.getD_some, Option.isSome_some] at RL hcl ⊢
    obtain ⟨m, hm⟩ : ∃ m, l.length = m := ⟨_, rfl⟩
    rw [hm] at hcl hll ⊢
    have HM := Lib.hid hm; clear hm
    by_cases hm0 : m = 0
    · subst hm0
      have hl0 : l = [] := List.length_eq_zero_iff.1 HM.out
      have HO : Hid ((0, del t nm) = D) := Lib.hid (by rw [← HD.out]; exact (if_pos hl0).symm)
      clear HD hl0
      go_wp2_with fail
      refine (H5.out w1 (rdT_mv HR.out HB1.out)).mono ?_
      rintro e w4 ⟨A4, c4, rfl, hc4, hr4, hb4⟩
      have HC4 := Lib.hid hc4; have HR4 := Lib.hid hr4; have HB4 := Lib.hid (below_to HB1.out hb4)
      clear hc4 hr4 hb4
      go_wp2
      go_ret2
      exact doEnd_ok HO.out.symm HC4.out HR4.out HB4.out
    · have hl0 : ¬ l = [] := fun e => hm0 (by rw [← HM.out, e]; rfl)
      have HO : Hid (D = (5, [])) := Lib.hid (by rw [← HD.out]; exact if_neg hl0)
      clear HD hl0
      have hmp : 0 < m := by omega
      go_wp2
      go_ret2
      exact doEnd_err HO.out HB1.out

set_option maxRecDepth 100000 in
set_option maxHeartbeats 2000000 in
theorem moveM (A0 : Option Addr) (n0 c0 : Nat) (A : Option Addr) (n c : Nat) (A' : Option Addr) (n' c' : Nat) (k : Int) (nm to : List UInt8) (q : Int) (t : TR) (w : World) (D : Int × TR) (hs : Wide t) (hn0 : t.length = n0) (hR : RdT w w.heap.size A0 t) (hD : (match get t nm with | none => ((5 : Int), ([] : TR)) | some l => if (get t to).isSome then (5, []) else (0, put lt (del t nm) to l)) = D) :
    Calls Try.prog 76 #[prV k nm to q A n c A' n' c', .slice A0 n0 c0] w (DoEnd w D) := by
  have hbx := below_box1 w (.cells #[.int .i64 k, strV nm, strV to, .int .i64 q, .slice A n c, .slice A' n' c'] 99)
  obtain ⟨g, hg⟩ : ∃ g, get t nm = g := ⟨_, rfl⟩
  rw [hg] at hD
  have h2 := fun w1 hB hR => Get nm A0 c0 n0 w.heap.size t w1 hn0 hs hB hR
  rw [hg] at h2
  have hgl : ∀ l, g = some l → l.length ≤ 8796093021952 := fun l e => wide_get hs (hg.trans e)
  have B0 := Lib.hid (Blk.new w 99 #[.int .i64 k, strV nm, strV to, .int .i64 q, .slice A n c, .slice A' n' c'])
  have H2 := Lib.hid h2; have HBX := Lib.hid hbx; have HD := Lib.hid hD; have HG := Lib.hid hg; have HGL := Lib.hid hgl; have HS := Lib.hid hs; have HN0 := Lib.hid hn0; have HR := Lib.hid hR
  obtain ⟨g2, hg2⟩ : ∃ g, get t to = g := ⟨_, rfl⟩
  have h3 := fun w1 hR => Get to A0 c0 n0 w1.heap.size t w1 hn0 hs (Nat.le_refl _) hR
  rw [hg2] at h3
  have H3 := Lib.hid h3; have HG2 := Lib.hid hg2
  clear h3 hg2
  have h5 := fun w1 hR => Del nm A0 c0 n0 w1.heap.size t w1 hn0 hs (Nat.le_refl _) hR
  have H5 := Lib.hid h5
  clear h5
  clear h2 hbx hD hg hgl hs hn0 hR
  go_enter Try.func76, Try.ntmps76
  go_wp2_with fail
  refine (H2.out _ HBX.out.size (HR.out.below HBX.out)).mono ?_
  rintro e w1 ⟨AL, cl, rfl, hcl, hrl, hb1⟩
  have b1 := B0.out.below hb1 B0.out.lt
  have RL := Lib.hid hrl; have HB1 := Lib.hid (below_via HBX.out hb1); have B1 := Lib.hid b1
  clear hrl hb1 H2 B0 HBX
  have x0 : w1.cell? ⟨w.heap.size, 0, none⟩ = some (.int .i64 k) := b1.cell 0 rfl
  have x1 : w1.cell? ⟨w.heap.size, 1, none⟩ = some (strV nm) := b1.cell 1 rfl
  have x2 : w1.cell? ⟨w.heap.size, 2, none⟩ = some (strV to) := b1.cell 2 rfl
  have x3 : w1.cell? ⟨w.heap.size, 3, none⟩ = some (.int .i64 q) := b1.cell 3 rfl
  have x4 : w1.cell? ⟨w.heap.size, 4, none⟩ = some (.slice A n c) := b1.cell 4 rfl
  have x5 : w1.cell? ⟨w.heap.size, 5, none⟩ = some (.slice A' n' c') := b1.cell 5 rfl
  clear b1
  go_wp2_with fail
  refine (H3.out w1 (rdT_mv HR.out HB1.out)).mono ?_
  rintro e w2 ⟨AT, ct, rfl, hct, hrt, hb2⟩
  have b2 := B1.out.below hb2 B1.out.lt
  replace RL := Lib.hid (rdS_to RL.out hb2)
  have HB2 := Lib.hid (below_to HB1.out hb2); have B2 := Lib.hid b2
  clear hrt hb2 hct H3 B1 x0 x1 x2 x3 x4 x5
  have x1 : w2.cell? ⟨w.heap.size, 1, none⟩ = some (strV nm) := b2.cell 1 rfl
  have x2 : w2.cell? ⟨w.heap.size, 2, none⟩ = some (strV to) := b2.cell 2 rfl
  clear b2
  cases g with
  | none =>
    have HO : Hid (D = (5, [])) := Lib.hid (by rw [← HD.out])
    go_wp2
    go_ret2
    exact doEnd_err HO.out HB2.out
  | some l =>
    have hll : l.length ≤ 8796093021952 := HGL.out l rfl
    clear HGL
    simp only [Option.getD_some, Option.isSome_some] at RL hcl ⊢
    obtain ⟨m, hm⟩ : ∃ m, l.length = m := ⟨_, rfl⟩
    rw [hm] at hcl hll ⊢
    have HM := Lib.hid hm; clear hm
    cases g2 with
    | some l2 =>
      have HO : Hid (D = (5, [])) := Lib.hid (by rw [← HD.out]; simp only [HG2.out]; rfl)
      clear HD
      go_wp2
      go_ret2
      exact doEnd_err HO.out HB2.out
    | none =>
      have HO : Hid ((0, put lt (del t nm) to l) = D) := Lib.hid (by rw [← HD.out]; simp only [HG2.out]; rfl)
      clear HD
      obtain ⟨kd, hkd⟩ : ∃ kd, (del t nm).length = kd := ⟨_, rfl⟩
      have H7 : Hid (∀ A4 c4 w4, RdT w4 w4.heap.size A4 (del t nm) → RdS w4 w4.heap.size AL l → Calls Try.prog 93 #[.slice A4 kd c4, strV to, .slice AL m cl] w4 (TreeEnd w4 (put lt (del t nm) to l))) := Lib.hid (fun A4 c4 w4 hR hR' => Put to A4 AL c4 kd w4.heap.size m cl (del t nm) l w4 hkd (wide_del HS.out nm) HM.out (Nat.le_trans hll (by decide)) (Nat.le_refl _) hR hR')
      have HRT : Hid (RdT w2 w2.heap.size A0 t) := Lib.hid (rdT_mv HR.out HB2.out)
      have HB20 : Hid (Below w.heap.size w w2.drew) := Lib.hid (below_drewN HB2.out 1)
      have h8 := H5.out w2.drew (HRT.out.drewN 1)
      unfold TreeEnd at h8
      rw [hkd] at h8
      have H8 := Lib.hid h8
      have RLD : Hid (RdS w2.drew w2.drew.heap.size AL l) := Lib.hid (Rd.drewN RL.out 1)
      have BD : Hid (Blk w2.drew w.heap.size 99 _) := Lib.hid (B2.out.drewN 1)
      clear h8 hkd H5
      go_wp2_with fail
      go_region_held3 (fun w' => w'.cell? ⟨w.heap.size, 1, none⟩ = some (strV nm) ∧ w'.cell? ⟨w.heap.size, 2, none⟩ = some (strV to))
        (first | go_keep | (exact ⟨y1, y2⟩) | (exact ⟨z1, z2⟩))
        (first
          | (go_at_call 94; refine H8.out.mono ?_; rintro e w4 ⟨A4, c4, rfl, hc4, hr4, hb4⟩;
              have b4 := BD.out.below hb4 BD.out.lt; have y1 : w4.cell? ⟨w.heap.size, 1, none⟩ = some (strV nm) := b4.cell 1 rfl; have y2 : w4.cell? ⟨w.heap.size, 2, none⟩ = some (strV to) := b4.cell 2 rfl;
              have HR4 := Lib.hid hr4; have RL4 := Lib.hid (rdS_to RLD.out hb4); have HB4 := Lib.hid (below_to HB20.out hb4); have B4 := Lib.hid b4; clear hr4 hb4 b4)
          | (go_at_call 93; refine (H7.out A4 c4 w4 HR4.out RL4.out).mono ?_; rintro e w5 ⟨A5, c5, rfl, hc5, hr5, hb5⟩;
              have b5 := B4.out.below hb5 B4.out.lt; have z1 : w5.cell? ⟨w.heap.size, 1, none⟩ = some (strV nm) := b5.cell 1 rfl; have z2 : w5.cell? ⟨w.heap.size, 2, none⟩ = some (strV to) := b5.cell 2 rfl;
              have HC5 := Lib.hid hc5; have HR5 := Lib.hid hr5; have HB5 := Lib.hid (below_to HB4.out hb5); clear hc5 hr5 hb5 b5))
      go_wp2
      go_ret2
      exact doEnd_ok HO.out.symm HC5.out HR5.out HB5.out

set_option maxRecDepth 100000 in
set_option maxHeartbeats 2000000 in
theorem patchM (A0 : Option Addr) (n0 c0 : Nat) (A : Option Addr) (n c : Nat) (A' : Option Addr) (n' c' : Nat) (k : Int) (nm to : List UInt8) (q : Int) (t : TR) (w : World) (D : Int × TR) (hs : Wide t) (hn0 : t.length = n0) (hR : RdT w w.heap.size A0 t) (h : HU) (hq : h.pos = q) (hm : mayH h = true) (hv : HV w w.heap.size A n c A' n' c' h) (hD : (match get t nm with | none => ((5 : Int), ([] : TR)) | some l => if applyE l h = 0 then (0, put lt t nm (applyL l h)) else (applyE l h, [])) = D) :
    Calls Try.prog 77 #[prV k nm to q A n c A' n' c', .slice A0 n0 c0] w (DoEnd w D) := by
  have hbx := below_box1 w (.cells #[.int .i64 k, strV nm, strV to, .int .i64 q, .slice A n c, .slice A' n' c'] 99)
  obtain ⟨g, hg⟩ : ∃ g, get t nm = g := ⟨_, rfl⟩
  rw [hg] at hD
  have h2 := fun w1 hB hR => Get nm A0 c0 n0 w.heap.size t w1 hn0 hs hB hR
  rw [hg] at h2
  have hgl : ∀ l, g = some l → l.length ≤ 8796093021952 := fun l e => wide_get hs (hg.trans e)
  have B0 := Lib.hid (Blk.new w 99 #[.int .i64 k, strV nm, strV to, .int .i64 q, .slice A n c, .slice A' n' c'])
  have H2 := Lib.hid h2; have HBX := Lib.hid hbx; have HD := Lib.hid hD; have HG := Lib.hid hg; have HGL := Lib.hid hgl; have HS := Lib.hid hs; have HN0 := Lib.hid hn0; have HR := Lib.hid hR
  have h4 := fun (s : List UInt8) (A1 : Option Addr) (m1 c1 : Nat) (l : List (List UInt8)) w1 hm hm5 hR hR' => Put s A0 A1 c0 n0 w1.heap.size m1 c1 t l w1 hn0 hs hm hm5 (Nat.le_refl _) hR hR'
  have H4 := Lib.hid h4
  clear h4
  have h6 := fun (A1 : Option Addr) (m1 c1 : Nat) (l : List (List UInt8)) w1 hm hc h1 hR hv => ApplyW A1 m1 c1 A n c A' n' c' w1.heap.size l h w1 (Nat.le_refl _) hm hc h1 hR hv
  rw [hq] at h6
  have H6 := Lib.hid h6; have HV0 := Lib.hid hv; have HHM := Lib.hid hm; have HQ := Lib.hid hq
  clear h2 hbx hD hg hgl hs hn0 hR h6 hv hm hq
  go_enter Try.func77, Try.ntmps77
  go_wp2_with fail
  refine (H2.out _ HBX.out.size (HR.out.below HBX.out)).mono ?_
  rintro e w1 ⟨AL, cl, rfl, hcl, hrl, hb1⟩
  have b1 := B0.out.below hb1 B0.out.lt
  have RL := Lib.hid hrl; have HB1 := Lib.hid (below_via HBX.out hb1); have B1 := Lib.hid b1
  clear hrl hb1 H2 B0 HBX
  have x0 : w1.cell? ⟨w.heap.size, 0, none⟩ = some (.int .i64 k) := b1.cell 0 rfl
  have x1 : w1.cell? ⟨w.heap.size, 1, none⟩ = some (strV nm) := b1.cell 1 rfl
  have x2 : w1.cell? ⟨w.heap.size, 2, none⟩ = some (strV to) := b1.cell 2 rfl
  have x3 : w1.cell? ⟨w.heap.size, 3, none⟩ = some (.int .i64 q) := b1.cell 3 rfl
  have x4 : w1.cell? ⟨w.heap.size, 4, none⟩ = some (.slice A n c) := b1.cell 4 rfl
  have x5 : w1.cell? ⟨w.heap.size, 5, none⟩ = some (.slice A' n' c') := b1.cell 5 rfl
  clear b1
  cases g with
  | none =>
    have HO : Hid (D = (5, [])) := Lib.hid (by rw [← HD.out])
    go_wp2
    go_ret2
    exact doEnd_err HO.out HB1.out
  | some l =>
    have hll : l.length ≤ 8796093021952 := HGL.out l rfl
    clear HGL
    simp only [Option.getD_some, Option.isSome_some] at RL hcl ⊢
    obtain ⟨m, hm⟩ : ∃ m, l.length = m := ⟨_, rfl⟩
    rw [hm] at hcl hll ⊢
    have HM := Lib.hid hm; clear hm
    go_wp2_with fail
    refine (H6.out AL m cl l w1 HM.out hcl hll RL.out (hv_mv HV0.out HB1.out)).mono ?_
    rintro e w3 ⟨A3, k3, c3, rfl, hc3, hl3, hr3, hb3⟩
    have b3 := B1.out.below hb3 B1.out.lt
    have HR3 := Lib.hid hr3; have HB3 := Lib.hid (below_to HB1.out hb3)
    have hk3 : k3 ≤ 8796093022208 := by have h1 := applyL_len (l := l) (h := h); have h2 := mayH_new HHM.out; rw [hl3, HM.out] at h1; omega
    have HL3 := Lib.hid hl3
    clear x0 x1 x2 x3 x4 x5
    have x1 : w3.cell? ⟨w.heap.size, 1, none⟩ = some (strV nm) := b3.cell 1 rfl
    clear hl3 hr3 hb3 B1 RL b3 H6
    by_cases hz : applyE l h = 0
    · have HO : Hid ((0, put lt t nm (applyL l h)) = D) := Lib.hid (by rw [← HD.out]; exact (if_pos hz).symm)
      rw [hz]
      clear HD
      go_wp2_with fail
      refine (H4.out nm A3 k3 c3 (applyL l h) w3 HL3.out hk3 (rdT_mv HR.out HB3.out) HR3.out).mono ?_
      rintro e w4 ⟨A4, c4, rfl, hc4, hr4, hb4⟩
      have HC4 := Lib.hid hc4; have HR4 := Lib.hid hr4; have HB4 := Lib.hid (below_to HB3.out hb4)
      clear hc4 hr4 hb4
      go_wp2
      go_ret2
      exact doEnd_ok HO.out.symm HC4.out HR4.out HB4.out
    · have HO : Hid (D = (applyE l h, [])) := Lib.hid (by rw [← HD.out]; exact if_neg hz)
      clear HD
      generalize applyE l h = ae at *
      have ez : (ae == 0) = false := by rw [beq_eq_false_iff_ne]; exact hz
      go_wp2
      go_ret2
      exact doEnd_err HO.out HB3.out

set_option maxRecDepth 100000 in
set_option maxHeartbeats 2000000 in
theorem setM (A0 : Option Addr) (n0 c0 : Nat) (A : Option Addr) (n c : Nat) (A' : Option Addr) (n' c' : Nat) (k : Int) (nm to : List UInt8) (q : Int) (t : TR) (w : World) (D : Int × TR) (hs : Wide t) (hn0 : t.length = n0) (hR : RdT w w.heap.size A0 t) (h : HU) (hnew : n' ≤ 8796093022208) (hv : HV w w.heap.size A n c A' n' c' h) (hD : (match get t nm with | none => ((5 : Int), ([] : TR)) | some l => if l = h.old then (0, put lt t nm h.new) else (5, [])) = D) :
    Calls Try.prog 78 #[prV k nm to q A n c A' n' c', .slice A0 n0 c0] w (DoEnd w D) := by
  have hbx := below_box1 w (.cells #[.int .i64 k, strV nm, strV to, .int .i64 q, .slice A n c, .slice A' n' c'] 99)
  obtain ⟨g, hg⟩ : ∃ g, get t nm = g := ⟨_, rfl⟩
  rw [hg] at hD
  have h2 := fun w1 hB hR => Get nm A0 c0 n0 w.heap.size t w1 hn0 hs hB hR
  rw [hg] at h2
  have hgl : ∀ l, g = some l → l.length ≤ 8796093021952 := fun l e => wide_get hs (hg.trans e)
  have B0 := Lib.hid (Blk.new w 99 #[.int .i64 k, strV nm, strV to, .int .i64 q, .slice A n c, .slice A' n' c'])
  have H2 := Lib.hid h2; have HBX := Lib.hid hbx; have HD := Lib.hid hD; have HG := Lib.hid hg; have HGL := Lib.hid hgl; have HS := Lib.hid hs; have HN0 := Lib.hid hn0; have HR := Lib.hid hR
  have h4 := fun (s : List UInt8) (A1 : Option Addr) (m1 c1 : Nat) (l : List (List UInt8)) w1 hm hm5 hR hR' => Put s A0 A1 c0 n0 w1.heap.size m1 c1 t l w1 hn0 hs hm hm5 (Nat.le_refl _) hR hR'
  have H4 := Lib.hid h4
  clear h4
  have HV0 := Lib.hid hv
  clear h2 hbx hD hg hgl hs hn0 hR hv
  go_enter Try.func78, Try.ntmps78
  go_wp2_with fail
  refine (H2.out _ HBX.out.size (HR.out.below HBX.out)).mono ?_
  rintro e w1 ⟨AL, cl, rfl, hcl, hrl, hb1⟩
  have b1 := B0.out.below hb1 B0.out.lt
  have RL := Lib.hid hrl; have HB1 := Lib.hid (below_via HBX.out hb1); have B1 := Lib.hid b1
  clear hrl hb1 H2 B0 HBX
  have x0 : w1.cell? ⟨w.heap.size, 0, none⟩ = some (.int .i64 k) := b1.cell 0 rfl
  have x1 : w1.cell? ⟨w.heap.size, 1, none⟩ = some (strV nm) := b1.cell 1 rfl
  have x2 : w1.cell? ⟨w.heap.size, 2, none⟩ = some (strV to) := b1.cell 2 rfl
  have x3 : w1.cell? ⟨w.heap.size, 3, none⟩ = some (.int .i64 q) := b1.cell 3 rfl
  have x4 : w1.cell? ⟨w.heap.size, 4, none⟩ = some (.slice A n c) := b1.cell 4 rfl
  have x5 : w1.cell? ⟨w.heap.size, 5, none⟩ = some (.slice A' n' c') := b1.cell 5 rfl
  clear b1
  cases g with
  | none =>
    have HO : Hid (D = (5, [])) := Lib.hid (by rw [← HD.out])
    go_wp2
    go_ret2
    exact doEnd_err HO.out HB1.out
  | some l =>
    have hll : l.length ≤ 8796093021952 := HGL.out l rfl
    clear HGL
    simp only [Option.getD_some, Option.isSome_some] at RL hcl ⊢
    obtain ⟨m, hm⟩ : ∃ m, l.length = m := ⟨_, rfl⟩
    rw [hm] at hcl hll ⊢
    have HM := Lib.hid hm; clear hm
    go_wp2_with fail
    refine (Hk.Equal AL A cl c m n w1.heap.size l h.old w1 HM.out HV0.out.l (Nat.le_trans hll (by decide)) RL.out (hv_mv HV0.out HB1.out).r).mono ?_
    rintro e w3 ⟨rfl, d, rfl⟩
    have HB3 : Hid (Below w.heap.size w (w1.drewN d)) := Lib.hid (below_drewN HB1.out d)
    by_cases hz : l = h.old
    · have HO : Hid ((0, put lt t nm h.new) = D) := Lib.hid (by rw [← HD.out]; exact (if_pos hz).symm)
      have hdz : decide (l = h.old) = true := decide_eq_true hz
      rw [hdz]
      clear HD hdz
      go_wp2_with fail
      refine (H4.out nm A' n' c' h.new (w1.drewN d) HV0.out.l' hnew (rdT_mv HR.out HB3.out) ((Rd.drewN (hv_mv HV0.out HB1.out).r' d))).mono ?_
      rintro e w4 ⟨A4, c4, rfl, hc4, hr4, hb4⟩
      have HC4 := Lib.hid hc4; have HR4 := Lib.hid hr4; have HB4 := Lib.hid (below_to HB3.out hb4)
      clear hc4 hr4 hb4
      go_wp2
      go_ret2
      exact doEnd_ok HO.out.symm HC4.out HR4.out HB4.out
    · have HO : Hid (D = (5, [])) := Lib.hid (by rw [← HD.out]; exact if_neg hz)
      have hdz : decide (l = h.old) = false := decide_eq_false hz
      rw [hdz]
      clear HD hdz
      go_wp2
      go_ret2
      exact doEnd_err HO.out HB3.out

set_option maxHeartbeats 1000000 in
theorem deeds (w : World) : Calls Try.prog 60 #[] w fun e w' => e = .returned (.agg #[.func (.func 74) #[] #[], .func (.func 75) #[] #[], .func (.func 76) #[] #[], .func (.func 77) #[] #[], .func (.func 78) #[] #[]]) ∧ Below w.heap.size w w' := by
  have hb := below_box1 w (.cells #[.nilFunc, .nilFunc, .nilFunc, .nilFunc, .nilFunc] 97)
  have b0 := Blk.new w 97 #[.nilFunc, .nilFunc, .nilFunc, .nilFunc, .nilFunc]
  go_enter Try.func60, Try.ntmps60
  go_upto_region 1 with fail
  generalize w.alloc (.cells #[.nilFunc, .nilFunc, .nilFunc, .nilFunc, .nilFunc] 97) = w1 at *
  have x0 : w1.cell? ⟨w.heap.size, 0, none⟩ = some .nilFunc := b0.cell 0 rfl
  have f0 : w1.frozen? ⟨w.heap.size, 0, none⟩ = false := b0.frozen 0
  have x1 : w1.cell? ⟨w.heap.size, 1, none⟩ = some .nilFunc := b0.cell 1 rfl
  have f1 : w1.frozen? ⟨w.heap.size, 1, none⟩ = false := b0.frozen 1
  have x2 : w1.cell? ⟨w.heap.size, 2, none⟩ = some .nilFunc := b0.cell 2 rfl
  have f2 : w1.frozen? ⟨w.heap.size, 2, none⟩ = false := b0.frozen 2
  have x3 : w1.cell? ⟨w.heap.size, 3, none⟩ = some .nilFunc := b0.cell 3 rfl
  have f3 : w1.frozen? ⟨w.heap.size, 3, none⟩ = false := b0.frozen 3
  have x4 : w1.cell? ⟨w.heap.size, 4, none⟩ = some .nilFunc := b0.cell 4 rfl
  have f4 : w1.frozen? ⟨w.heap.size, 4, none⟩ = false := b0.frozen 4
  have b1 := blk5 b0 (.func (.func 74) #[] #[]) (.func (.func 75) #[] #[]) (.func (.func 76) #[] #[]) (.func (.func 77) #[] #[]) (.func (.func 78) #[] #[])
  have HB := Lib.hid (below5 hb (.func (.func 74) #[] #[]) (.func (.func 75) #[] #[]) (.func (.func 76) #[] #[]) (.func (.func 77) #[] #[]) (.func (.func 78) #[] #[])); have B1 := Lib.hid b1
  clear b0 b1 hb
  go_wp2
  have b1 := B1.out; have hb := HB.out
  clear x0 x1 x2 x3 x4 f0 f1 f2 f3 f4 B1 HB
  generalize (World.setCell (World.setCell (World.setCell (World.setCell (World.setCell w1 ⟨w.heap.size, 0, none⟩ (.func (.func 74) #[] #[])) ⟨w.heap.size, 1, none⟩ (.func (.func 75) #[] #[])) ⟨w.heap.size, 2, none⟩ (.func (.func 76) #[] #[])) ⟨w.heap.size, 3, none⟩ (.func (.func 77) #[] #[])) ⟨w.heap.size, 4, none⟩ (.func (.func 78) #[] #[])) = w2 at *
  have q0 : w2.cell? ⟨w.heap.size, 0, none⟩ = some (.func (.func 74) #[] #[]) := b1.cell 0 rfl
  have q1 : w2.cell? ⟨w.heap.size, 1, none⟩ = some (.func (.func 75) #[] #[]) := b1.cell 1 rfl
  have q2 : w2.cell? ⟨w.heap.size, 2, none⟩ = some (.func (.func 76) #[] #[]) := b1.cell 2 rfl
  have q3 : w2.cell? ⟨w.heap.size, 3, none⟩ = some (.func (.func 77) #[] #[]) := b1.cell 3 rfl
  have q4 : w2.cell? ⟨w.heap.size, 4, none⟩ = some (.func (.func 78) #[] #[]) := b1.cell 4 rfl
  refine bodyPost_ret (v := .agg #[.func (.func 74) #[] #[], .func (.func 75) #[] #[], .func (.func 76) #[] #[], .func (.func 77) #[] #[], .func (.func 78) #[] #[]]) (by simp [results, Try.results60, go_sem, q0, q1, q2, q3, q4]) rfl ?_
  exact ⟨rfl, hb⟩

theorem index_do (w : World) (i : Int) (f : Value) (hi : 0 ≤ i ∧ i < 5) (hf : (#[.func (.func 74) #[] #[], .func (.func 75) #[] #[], .func (.func 76) #[] #[], .func (.func 77) #[] #[], .func (.func 78) #[] #[]] : Array Value)[i.toNat]? = some f) :
    (Instr.index 97 (.agg #[.func (.func 74) #[] #[], .func (.func 75) #[] #[], .func (.func 76) #[] #[], .func (.func 77) #[] #[], .func (.func 78) #[] #[]]) (.int .i64 i)).run Try.prog w = .ok f w :=
  run_index_array Try.underlying97 hi (by kernel_rfl) (by kernel_rfl) hf

set_option maxHeartbeats 4000000 in
theorem ApplyP0 (A0 : Option Addr) (n0 c0 : Nat) (A : Option Addr) (n c : Nat) (A' : Option Addr) (n' c' : Nat) (nm to : List UInt8) (q : Int) (w : World) (D : Int × TR)
    (hmay : ∀ w1, Below w.heap.size w w1 → Calls Try.prog 59 #[prV 0 nm to q A n c A' n' c'] w1 (TestEnd w1 true))
    (hm : ∀ w1, Below w.heap.size w w1 → Calls Try.prog 74 #[prV 0 nm to q A n c A' n' c', .slice A0 n0 c0] w1 (DoEnd w1 D)) :
    Calls Try.prog 48 #[.slice A0 n0 c0, prV 0 nm to q A n c A' n' c'] w (DoEnd w D) := by
  have hbx : Below w.heap.size w (box w 0 nm to q A n c A' n' c') := (Below.refl _ _).alloc (Nat.le_refl _) _
  have HBX := Lib.hid hbx; have H1 := Lib.hid hm; have HM := Lib.hid hmay
  have B0 := Lib.hid (Blk.new w 51 #[.int .i64 0, strV nm, strV to, .int .i64 q, .slice A n c, .slice A' n' c'])
  clear hbx hm hmay
  go_enter Try.func48, Try.ntmps48
  go_wp2_with fail
  refine (HM.out (box w 0 nm to q A n c A' n' c') HBX.out).mono ?_
  rintro e W ⟨rfl, hb1⟩
  have b0 := B0.out.below hb1 B0.out.lt
  have HB1 := Lib.hid (below_via HBX.out hb1)
  have BW := Lib.hid b0
  have HH : Hid (∀ w1, Below W.heap.size W.drew w1 → Blk w1 w.heap.size 51 #[.int .i64 0, strV nm, strV to, .int .i64 q, .slice A n c, .slice A' n' c']) := Lib.hid (fun w1 hb => (BW.out.drewN 1).below hb BW.out.lt)
  have HT : Hid (∀ w1, Below W.heap.size W.drew w1 → Below w.heap.size w w1) := Lib.hid (fun w1 hb => (below_drewN HB1.out 1).trans (hb.mono HB1.out.size))
  clear hb1 B0 HBX
  have x0 : W.cell? ⟨w.heap.size, 0, none⟩ = some (.int .i64 0) := b0.cell 0 rfl
  have x1 : W.cell? ⟨w.heap.size, 1, none⟩ = some (strV nm) := b0.cell 1 rfl
  have x2 : W.cell? ⟨w.heap.size, 2, none⟩ = some (strV to) := b0.cell 2 rfl
  have x3 : W.cell? ⟨w.heap.size, 3, none⟩ = some (.int .i64 q) := b0.cell 3 rfl
  have x4 : W.cell? ⟨w.heap.size, 4, none⟩ = some (.slice A n c) := b0.cell 4 rfl
  have x5 : W.cell? ⟨w.heap.size, 5, none⟩ = some (.slice A' n' c') := b0.cell 5 rfl
  clear b0
  have qi := fun w => index_do w 0 _ (by decide) rfl
  go_wp2_with fail
  go_region_held3 (fun w' => w'.cell? ⟨w.heap.size, 0, none⟩ = some (.int .i64 0) ∧ w'.cell? ⟨w.heap.size, 1, none⟩ = some (strV nm) ∧ w'.cell? ⟨w.heap.size, 2, none⟩ = some (strV to) ∧ w'.cell? ⟨w.heap.size, 3, none⟩ = some (.int .i64 q) ∧ w'.cell? ⟨w.heap.size, 4, none⟩ = some (.slice A n c) ∧ w'.cell? ⟨w.heap.size, 5, none⟩ = some (.slice A' n' c'))
    (first | go_keep | (exact ⟨y0, y1, y2, y3, y4, y5⟩) | (exact ⟨z0, z1, z2, z3, z4, z5⟩))
    (first
      | (go_at_call 60; refine (deeds W.drew).mono ?_; rintro e w2 ⟨rfl, hb2⟩; have b2 := HH.out w2 hb2; have hb02 := HT.out w2 hb2; have y0 : w2.cell? ⟨w.heap.size, 0, none⟩ = some (.int .i64 0) := b2.cell 0 rfl; have y1 : w2.cell? ⟨w.heap.size, 1, none⟩ = some (strV nm) := b2.cell 1 rfl; have y2 : w2.cell? ⟨w.heap.size, 2, none⟩ = some (strV to) := b2.cell 2 rfl; have y3 : w2.cell? ⟨w.heap.size, 3, none⟩ = some (.int .i64 q) := b2.cell 3 rfl; have y4 : w2.cell? ⟨w.heap.size, 4, none⟩ = some (.slice A n c) := b2.cell 4 rfl; have y5 : w2.cell? ⟨w.heap.size, 5, none⟩ = some (.slice A' n' c') := b2.cell 5 rfl; have HB2 := Lib.hid hb02; have B2 := Lib.hid b2; clear b2 hb2 hb02)
      | (go_at_call 74; refine (H1.out w2 HB2.out).mono ?_; rintro e w3 ⟨A3, k3, c3, rfl, hc3, hl3, hr3, hb3⟩; have hb03 := below_via HB2.out hb3; have b3 := B2.out.below hb3 B2.out.lt; have z0 : w3.cell? ⟨w.heap.size, 0, none⟩ = some (.int .i64 0) := b3.cell 0 rfl; have z1 : w3.cell? ⟨w.heap.size, 1, none⟩ = some (strV nm) := b3.cell 1 rfl; have z2 : w3.cell? ⟨w.heap.size, 2, none⟩ = some (strV to) := b3.cell 2 rfl; have z3 : w3.cell? ⟨w.heap.size, 3, none⟩ = some (.int .i64 q) := b3.cell 3 rfl; have z4 : w3.cell? ⟨w.heap.size, 4, none⟩ = some (.slice A n c) := b3.cell 4 rfl; have z5 : w3.cell? ⟨w.heap.size, 5, none⟩ = some (.slice A' n' c') := b3.cell 5 rfl; have HB3 := Lib.hid hb03; have HC3 := Lib.hid hc3; have HL3 := Lib.hid hl3; have HR3 := Lib.hid hr3; clear b3 hb3 hb03 hc3 hl3 hr3))
  go_wp2
  go_ret2
  exact ⟨A3, k3, c3, rfl, HC3.out, HL3.out, HR3.out, HB3.out⟩

set_option maxHeartbeats 4000000 in
theorem ApplyP1 (A0 : Option Addr) (n0 c0 : Nat) (A : Option Addr) (n c : Nat) (A' : Option Addr) (n' c' : Nat) (nm to : List UInt8) (q : Int) (w : World) (D : Int × TR)
    (hmay : ∀ w1, Below w.heap.size w w1 → Calls Try.prog 59 #[prV 1 nm to q A n c A' n' c'] w1 (TestEnd w1 true))
    (hm : ∀ w1, Below w.heap.size w w1 → Calls Try.prog 75 #[prV 1 nm to q A n c A' n' c', .slice A0 n0 c0] w1 (DoEnd w1 D)) :
    Calls Try.prog 48 #[.slice A0 n0 c0, prV 1 nm to q A n c A' n' c'] w (DoEnd w D) := by
  have hbx : Below w.heap.size w (box w 1 nm to q A n c A' n' c') := (Below.refl _ _).alloc (Nat.le_refl _) _
  have HBX := Lib.hid hbx; have H1 := Lib.hid hm; have HM := Lib.hid hmay
  have B0 := Lib.hid (Blk.new w 51 #[.int .i64 1, strV nm, strV to, .int .i64 q, .slice A n c, .slice A' n' c'])
  clear hbx hm hmay
  go_enter Try.func48, Try.ntmps48
  go_wp2_with fail
  refine (HM.out (box w 1 nm to q A n c A' n' c') HBX.out).mono ?_
  rintro e W ⟨rfl, hb1⟩
  have b0 := B0.out.below hb1 B0.out.lt
  have HB1 := Lib.hid (below_via HBX.out hb1)
  have BW := Lib.hid b0
  have HH : Hid (∀ w1, Below W.heap.size W.drew w1 → Blk w1 w.heap.size 51 #[.int .i64 1, strV nm, strV to, .int .i64 q, .slice A n c, .slice A' n' c']) := Lib.hid (fun w1 hb => (BW.out.drewN 1).below hb BW.out.lt)
  have HT : Hid (∀ w1, Below W.heap.size W.drew w1 → Below w.heap.size w w1) := Lib.hid (fun w1 hb => (below_drewN HB1.out 1).trans (hb.mono HB1.out.size))
  clear hb1 B0 HBX
  have x0 : W.cell? ⟨w.heap.size, 0, none⟩ = some (.int .i64 1) := b0.cell 0 rfl
  have x1 : W.cell? ⟨w.heap.size, 1, none⟩ = some (strV nm) := b0.cell 1 rfl
  have x2 : W.cell? ⟨w.heap.size, 2, none⟩ = some (strV to) := b0.cell 2 rfl
  have x3 : W.cell? ⟨w.heap.size, 3, none⟩ = some (.int .i64 q) := b0.cell 3 rfl
  have x4 : W.cell? ⟨w.heap.size, 4, none⟩ = some (.slice A n c) := b0.cell 4 rfl
  have x5 : W.cell? ⟨w.heap.size, 5, none⟩ = some (.slice A' n' c') := b0.cell 5 rfl
  clear b0
  have qi := fun w => index_do w 1 _ (by decide) rfl
  go_wp2_with fail
  go_region_held3 (fun w' => w'.cell? ⟨w.heap.size, 0, none⟩ = some (.int .i64 1) ∧ w'.cell? ⟨w.heap.size, 1, none⟩ = some (strV nm) ∧ w'.cell? ⟨w.heap.size, 2, none⟩ = some (strV to) ∧ w'.cell? ⟨w.heap.size, 3, none⟩ = some (.int .i64 q) ∧ w'.cell? ⟨w.heap.size, 4, none⟩ = some (.slice A n c) ∧ w'.cell? ⟨w.heap.size, 5, none⟩ = some (.slice A' n' c'))
    (first | go_keep | (exact ⟨y0, y1, y2, y3, y4, y5⟩) | (exact ⟨z0, z1, z2, z3, z4, z5⟩))
    (first
      | (go_at_call 60; refine (deeds W.drew).mono ?_; rintro e w2 ⟨rfl, hb2⟩; have b2 := HH.out w2 hb2; have hb02 := HT.out w2 hb2; have y0 : w2.cell? ⟨w.heap.size, 0, none⟩ = some (.int .i64 1) := b2.cell 0 rfl; have y1 : w2.cell? ⟨w.heap.size, 1, none⟩ = some (strV nm) := b2.cell 1 rfl; have y2 : w2.cell? ⟨w.heap.size, 2, none⟩ = some (strV to) := b2.cell 2 rfl; have y3 : w2.cell? ⟨w.heap.size, 3, none⟩ = some (.int .i64 q) := b2.cell 3 rfl; have y4 : w2.cell? ⟨w.heap.size, 4, none⟩ = some (.slice A n c) := b2.cell 4 rfl; have y5 : w2.cell? ⟨w.heap.size, 5, none⟩ = some (.slice A' n' c') := b2.cell 5 rfl; have HB2 := Lib.hid hb02; have B2 := Lib.hid b2; clear b2 hb2 hb02)
      | (go_at_call 75; refine (H1.out w2 HB2.out).mono ?_; rintro e w3 ⟨A3, k3, c3, rfl, hc3, hl3, hr3, hb3⟩; have hb03 := below_via HB2.out hb3; have b3 := B2.out.below hb3 B2.out.lt; have z0 : w3.cell? ⟨w.heap.size, 0, none⟩ = some (.int .i64 1) := b3.cell 0 rfl; have z1 : w3.cell? ⟨w.heap.size, 1, none⟩ = some (strV nm) := b3.cell 1 rfl; have z2 : w3.cell? ⟨w.heap.size, 2, none⟩ = some (strV to) := b3.cell 2 rfl; have z3 : w3.cell? ⟨w.heap.size, 3, none⟩ = some (.int .i64 q) := b3.cell 3 rfl; have z4 : w3.cell? ⟨w.heap.size, 4, none⟩ = some (.slice A n c) := b3.cell 4 rfl; have z5 : w3.cell? ⟨w.heap.size, 5, none⟩ = some (.slice A' n' c') := b3.cell 5 rfl; have HB3 := Lib.hid hb03; have HC3 := Lib.hid hc3; have HL3 := Lib.hid hl3; have HR3 := Lib.hid hr3; clear b3 hb3 hb03 hc3 hl3 hr3))
  go_wp2
  go_ret2
  exact ⟨A3, k3, c3, rfl, HC3.out, HL3.out, HR3.out, HB3.out⟩

set_option maxHeartbeats 4000000 in
theorem ApplyP2 (A0 : Option Addr) (n0 c0 : Nat) (A : Option Addr) (n c : Nat) (A' : Option Addr) (n' c' : Nat) (nm to : List UInt8) (q : Int) (w : World) (D : Int × TR)
    (hmay : ∀ w1, Below w.heap.size w w1 → Calls Try.prog 59 #[prV 2 nm to q A n c A' n' c'] w1 (TestEnd w1 true))
    (hm : ∀ w1, Below w.heap.size w w1 → Calls Try.prog 76 #[prV 2 nm to q A n c A' n' c', .slice A0 n0 c0] w1 (DoEnd w1 D)) :
    Calls Try.prog 48 #[.slice A0 n0 c0, prV 2 nm to q A n c A' n' c'] w (DoEnd w D) := by
  have hbx : Below w.heap.size w (box w 2 nm to q A n c A' n' c') := (Below.refl _ _).alloc (Nat.le_refl _) _
  have HBX := Lib.hid hbx; have H1 := Lib.hid hm; have HM := Lib.hid hmay
  have B0 := Lib.hid (Blk.new w 51 #[.int .i64 2, strV nm, strV to, .int .i64 q, .slice A n c, .slice A' n' c'])
  clear hbx hm hmay
  go_enter Try.func48, Try.ntmps48
  go_wp2_with fail
  refine (HM.out (box w 2 nm to q A n c A' n' c') HBX.out).mono ?_
  rintro e W ⟨rfl, hb1⟩
  have b0 := B0.out.below hb1 B0.out.lt
  have HB1 := Lib.hid (below_via HBX.out hb1)
  have BW := Lib.hid b0
  have HH : Hid (∀ w1, Below W.heap.size W.drew w1 → Blk w1 w.heap.size 51 #[.int .i64 2, strV nm, strV to, .int .i64 q, .slice A n c, .slice A' n' c']) := Lib.hid (fun w1 hb => (BW.out.drewN 1).below hb BW.out.lt)
  have HT : Hid (∀ w1, Below W.heap.size W.drew w1 → Below w.heap.size w w1) := Lib.hid (fun w1 hb => (below_drewN HB1.out 1).trans (hb.mono HB1.out.size))
  clear hb1 B0 HBX
  have x0 : W.cell? ⟨w.heap.size, 0, none⟩ = some (.int .i64 2) := b0.cell 0 rfl
  have x1 : W.cell? ⟨w.heap.size, 1, none⟩ = some (strV nm) := b0.cell 1 rfl
  have x2 : W.cell? ⟨w.heap.size, 2, none⟩ = some (strV to) := b0.cell 2 rfl
  have x3 : W.cell? ⟨w.heap.size, 3, none⟩ = some (.int .i64 q) := b0.cell 3 rfl
  have x4 : W.cell? ⟨w.heap.size, 4, none⟩ = some (.slice A n c) := b0.cell 4 rfl
  have x5 : W.cell? ⟨w.heap.size, 5, none⟩ = some (.slice A' n' c') := b0.cell 5 rfl
  clear b0
  have qi := fun w => index_do w 2 _ (by decide) rfl
  go_wp2_with fail
  go_region_held3 (fun w' => w'.cell? ⟨w.heap.size, 0, none⟩ = some (.int .i64 2) ∧ w'.cell? ⟨w.heap.size, 1, none⟩ = some (strV nm) ∧ w'.cell? ⟨w.heap.size, 2, none⟩ = some (strV to) ∧ w'.cell? ⟨w.heap.size, 3, none⟩ = some (.int .i64 q) ∧ w'.cell? ⟨w.heap.size, 4, none⟩ = some (.slice A n c) ∧ w'.cell? ⟨w.heap.size, 5, none⟩ = some (.slice A' n' c'))
    (first | go_keep | (exact ⟨y0, y1, y2, y3, y4, y5⟩) | (exact ⟨z0, z1, z2, z3, z4, z5⟩))
    (first
      | (go_at_call 60; refine (deeds W.drew).mono ?_; rintro e w2 ⟨rfl, hb2⟩; have b2 := HH.out w2 hb2; have hb02 := HT.out w2 hb2; have y0 : w2.cell? ⟨w.heap.size, 0, none⟩ = some (.int .i64 2) := b2.cell 0 rfl; have y1 : w2.cell? ⟨w.heap.size, 1, none⟩ = some (strV nm) := b2.cell 1 rfl; have y2 : w2.cell? ⟨w.heap.size, 2, none⟩ = some (strV to) := b2.cell 2 rfl; have y3 : w2.cell? ⟨w.heap.size, 3, none⟩ = some (.int .i64 q) := b2.cell 3 rfl; have y4 : w2.cell? ⟨w.heap.size, 4, none⟩ = some (.slice A n c) := b2.cell 4 rfl; have y5 : w2.cell? ⟨w.heap.size, 5, none⟩ = some (.slice A' n' c') := b2.cell 5 rfl; have HB2 := Lib.hid hb02; have B2 := Lib.hid b2; clear b2 hb2 hb02)
      | (go_at_call 76; refine (H1.out w2 HB2.out).mono ?_; rintro e w3 ⟨A3, k3, c3, rfl, hc3, hl3, hr3, hb3⟩; have hb03 := below_via HB2.out hb3; have b3 := B2.out.below hb3 B2.out.lt; have z0 : w3.cell? ⟨w.heap.size, 0, none⟩ = some (.int .i64 2) := b3.cell 0 rfl; have z1 : w3.cell? ⟨w.heap.size, 1, none⟩ = some (strV nm) := b3.cell 1 rfl; have z2 : w3.cell? ⟨w.heap.size, 2, none⟩ = some (strV to) := b3.cell 2 rfl; have z3 : w3.cell? ⟨w.heap.size, 3, none⟩ = some (.int .i64 q) := b3.cell 3 rfl; have z4 : w3.cell? ⟨w.heap.size, 4, none⟩ = some (.slice A n c) := b3.cell 4 rfl; have z5 : w3.cell? ⟨w.heap.size, 5, none⟩ = some (.slice A' n' c') := b3.cell 5 rfl; have HB3 := Lib.hid hb03; have HC3 := Lib.hid hc3; have HL3 := Lib.hid hl3; have HR3 := Lib.hid hr3; clear b3 hb3 hb03 hc3 hl3 hr3))
  go_wp2
  go_ret2
  exact ⟨A3, k3, c3, rfl, HC3.out, HL3.out, HR3.out, HB3.out⟩

set_option maxHeartbeats 4000000 in
theorem ApplyP3 (A0 : Option Addr) (n0 c0 : Nat) (A : Option Addr) (n c : Nat) (A' : Option Addr) (n' c' : Nat) (nm to : List UInt8) (q : Int) (w : World) (D : Int × TR)
    (hmay : ∀ w1, Below w.heap.size w w1 → Calls Try.prog 59 #[prV 3 nm to q A n c A' n' c'] w1 (TestEnd w1 true))
    (hm : ∀ w1, Below w.heap.size w w1 → Calls Try.prog 77 #[prV 3 nm to q A n c A' n' c', .slice A0 n0 c0] w1 (DoEnd w1 D)) :
    Calls Try.prog 48 #[.slice A0 n0 c0, prV 3 nm to q A n c A' n' c'] w (DoEnd w D) := by
  have hbx : Below w.heap.size w (box w 3 nm to q A n c A' n' c') := (Below.refl _ _).alloc (Nat.le_refl _) _
  have HBX := Lib.hid hbx; have H1 := Lib.hid hm; have HM := Lib.hid hmay
  have B0 := Lib.hid (Blk.new w 51 #[.int .i64 3, strV nm, strV to, .int .i64 q, .slice A n c, .slice A' n' c'])
  clear hbx hm hmay
  go_enter Try.func48, Try.ntmps48
  go_wp2_with fail
  refine (HM.out (box w 3 nm to q A n c A' n' c') HBX.out).mono ?_
  rintro e W ⟨rfl, hb1⟩
  have b0 := B0.out.below hb1 B0.out.lt
  have HB1 := Lib.hid (below_via HBX.out hb1)
  have BW := Lib.hid b0
  have HH : Hid (∀ w1, Below W.heap.size W.drew w1 → Blk w1 w.heap.size 51 #[.int .i64 3, strV nm, strV to, .int .i64 q, .slice A n c, .slice A' n' c']) := Lib.hid (fun w1 hb => (BW.out.drewN 1).below hb BW.out.lt)
  have HT : Hid (∀ w1, Below W.heap.size W.drew w1 → Below w.heap.size w w1) := Lib.hid (fun w1 hb => (below_drewN HB1.out 1).trans (hb.mono HB1.out.size))
  clear hb1 B0 HBX
  have x0 : W.cell? ⟨w.heap.size, 0, none⟩ = some (.int .i64 3) := b0.cell 0 rfl
  have x1 : W.cell? ⟨w.heap.size, 1, none⟩ = some (strV nm) := b0.cell 1 rfl
  have x2 : W.cell? ⟨w.heap.size, 2, none⟩ = some (strV to) := b0.cell 2 rfl
  have x3 : W.cell? ⟨w.heap.size, 3, none⟩ = some (.int .i64 q) := b0.cell 3 rfl
  have x4 : W.cell? ⟨w.heap.size, 4, none⟩ = some (.slice A n c) := b0.cell 4 rfl
  have x5 : W.cell? ⟨w.heap.size, 5, none⟩ = some (.slice A' n' c') := b0.cell 5 rfl
  clear b0
  have qi := fun w => index_do w 3 _ (by decide) rfl
  go_wp2_with fail
  go_region_held3 (fun w' => w'.cell? ⟨w.heap.size, 0, none⟩ = some (.int .i64 3) ∧ w'.cell? ⟨w.heap.size, 1, none⟩ = some (strV nm) ∧ w'.cell? ⟨w.heap.size, 2, none⟩ = some (strV to) ∧ w'.cell? ⟨w.heap.size, 3, none⟩ = some (.int .i64 q) ∧ w'.cell? ⟨w.heap.size, 4, none⟩ = some (.slice A n c) ∧ w'.cell? ⟨w.heap.size, 5, none⟩ = some (.slice A' n' c'))
    (first | go_keep | (exact ⟨y0, y1, y2, y3, y4, y5⟩) | (exact ⟨z0, z1, z2, z3, z4, z5⟩))
    (first
      | (go_at_call 60; refine (deeds W.drew).mono ?_; rintro e w2 ⟨rfl, hb2⟩; have b2 := HH.out w2 hb2; have hb02 := HT.out w2 hb2; have y0 : w2.cell? ⟨w.heap.size, 0, none⟩ = some (.int .i64 3) := b2.cell 0 rfl; have y1 : w2.cell? ⟨w.heap.size, 1, none⟩ = some (strV nm) := b2.cell 1 rfl; have y2 : w2.cell? ⟨w.heap.size, 2, none⟩ = some (strV to) := b2.cell 2 rfl; have y3 : w2.cell? ⟨w.heap.size, 3, none⟩ = some (.int .i64 q) := b2.cell 3 rfl; have y4 : w2.cell? ⟨w.heap.size, 4, none⟩ = some (.slice A n c) := b2.cell 4 rfl; have y5 : w2.cell? ⟨w.heap.size, 5, none⟩ = some (.slice A' n' c') := b2.cell 5 rfl; have HB2 := Lib.hid hb02; have B2 := Lib.hid b2; clear b2 hb2 hb02)
      | (go_at_call 77; refine (H1.out w2 HB2.out).mono ?_; rintro e w3 ⟨A3, k3, c3, rfl, hc3, hl3, hr3, hb3⟩; have hb03 := below_via HB2.out hb3; have b3 := B2.out.below hb3 B2.out.lt; have z0 : w3.cell? ⟨w.heap.size, 0, none⟩ = some (.int .i64 3) := b3.cell 0 rfl; have z1 : w3.cell? ⟨w.heap.size, 1, none⟩ = some (strV nm) := b3.cell 1 rfl; have z2 : w3.cell? ⟨w.heap.size, 2, none⟩ = some (strV to) := b3.cell 2 rfl; have z3 : w3.cell? ⟨w.heap.size, 3, none⟩ = some (.int .i64 q) := b3.cell 3 rfl; have z4 : w3.cell? ⟨w.heap.size, 4, none⟩ = some (.slice A n c) := b3.cell 4 rfl; have z5 : w3.cell? ⟨w.heap.size, 5, none⟩ = some (.slice A' n' c') := b3.cell 5 rfl; have HB3 := Lib.hid hb03; have HC3 := Lib.hid hc3; have HL3 := Lib.hid hl3; have HR3 := Lib.hid hr3; clear b3 hb3 hb03 hc3 hl3 hr3))
  go_wp2
  go_ret2
  exact ⟨A3, k3, c3, rfl, HC3.out, HL3.out, HR3.out, HB3.out⟩

set_option maxHeartbeats 4000000 in
theorem ApplyP4 (A0 : Option Addr) (n0 c0 : Nat) (A : Option Addr) (n c : Nat) (A' : Option Addr) (n' c' : Nat) (nm to : List UInt8) (q : Int) (w : World) (D : Int × TR)
    (hmay : ∀ w1, Below w.heap.size w w1 → Calls Try.prog 59 #[prV 4 nm to q A n c A' n' c'] w1 (TestEnd w1 true))
    (hm : ∀ w1, Below w.heap.size w w1 → Calls Try.prog 78 #[prV 4 nm to q A n c A' n' c', .slice A0 n0 c0] w1 (DoEnd w1 D)) :
    Calls Try.prog 48 #[.slice A0 n0 c0, prV 4 nm to q A n c A' n' c'] w (DoEnd w D) := by
  have hbx : Below w.heap.size w (box w 4 nm to q A n c A' n' c') := (Below.refl _ _).alloc (Nat.le_refl _) _
  have HBX := Lib.hid hbx; have H1 := Lib.hid hm; have HM := Lib.hid hmay
  have B0 := Lib.hid (Blk.new w 51 #[.int .i64 4, strV nm, strV to, .int .i64 q, .slice A n c, .slice A' n' c'])
  clear hbx hm hmay
  go_enter Try.func48, Try.ntmps48
  go_wp2_with fail
  refine (HM.out (box w 4 nm to q A n c A' n' c') HBX.out).mono ?_
  rintro e W ⟨rfl, hb1⟩
  have b0 := B0.out.below hb1 B0.out.lt
  have HB1 := Lib.hid (below_via HBX.out hb1)
  have BW := Lib.hid b0
  have HH : Hid (∀ w1, Below W.heap.size W.drew w1 → Blk w1 w.heap.size 51 #[.int .i64 4, strV nm, strV to, .int .i64 q, .slice A n c, .slice A' n' c']) := Lib.hid (fun w1 hb => (BW.out.drewN 1).below hb BW.out.lt)
  have HT : Hid (∀ w1, Below W.heap.size W.drew w1 → Below w.heap.size w w1) := Lib.hid (fun w1 hb => (below_drewN HB1.out 1).trans (hb.mono HB1.out.size))
  clear hb1 B0 HBX
  have x0 : W.cell? ⟨w.heap.size, 0, none⟩ = some (.int .i64 4) := b0.cell 0 rfl
  have x1 : W.cell? ⟨w.heap.size, 1, none⟩ = some (strV nm) := b0.cell 1 rfl
  have x2 : W.cell? ⟨w.heap.size, 2, none⟩ = some (strV to) := b0.cell 2 rfl
  have x3 : W.cell? ⟨w.heap.size, 3, none⟩ = some (.int .i64 q) := b0.cell 3 rfl
  have x4 : W.cell? ⟨w.heap.size, 4, none⟩ = some (.slice A n c) := b0.cell 4 rfl
  have x5 : W.cell? ⟨w.heap.size, 5, none⟩ = some (.slice A' n' c') := b0.cell 5 rfl
  clear b0
  have qi := fun w => index_do w 4 _ (by decide) rfl
  go_wp2_with fail
  go_region_held3 (fun w' => w'.cell? ⟨w.heap.size, 0, none⟩ = some (.int .i64 4) ∧ w'.cell? ⟨w.heap.size, 1, none⟩ = some (strV nm) ∧ w'.cell? ⟨w.heap.size, 2, none⟩ = some (strV to) ∧ w'.cell? ⟨w.heap.size, 3, none⟩ = some (.int .i64 q) ∧ w'.cell? ⟨w.heap.size, 4, none⟩ = some (.slice A n c) ∧ w'.cell? ⟨w.heap.size, 5, none⟩ = some (.slice A' n' c'))
    (first | go_keep | (exact ⟨y0, y1, y2, y3, y4, y5⟩) | (exact ⟨z0, z1, z2, z3, z4, z5⟩))
    (first
      | (go_at_call 60; refine (deeds W.drew).mono ?_; rintro e w2 ⟨rfl, hb2⟩; have b2 := HH.out w2 hb2; have hb02 := HT.out w2 hb2; have y0 : w2.cell? ⟨w.heap.size, 0, none⟩ = some (.int .i64 4) := b2.cell 0 rfl; have y1 : w2.cell? ⟨w.heap.size, 1, none⟩ = some (strV nm) := b2.cell 1 rfl; have y2 : w2.cell? ⟨w.heap.size, 2, none⟩ = some (strV to) := b2.cell 2 rfl; have y3 : w2.cell? ⟨w.heap.size, 3, none⟩ = some (.int .i64 q) := b2.cell 3 rfl; have y4 : w2.cell? ⟨w.heap.size, 4, none⟩ = some (.slice A n c) := b2.cell 4 rfl; have y5 : w2.cell? ⟨w.heap.size, 5, none⟩ = some (.slice A' n' c') := b2.cell 5 rfl; have HB2 := Lib.hid hb02; have B2 := Lib.hid b2; clear b2 hb2 hb02)
      | (go_at_call 78; refine (H1.out w2 HB2.out).mono ?_; rintro e w3 ⟨A3, k3, c3, rfl, hc3, hl3, hr3, hb3⟩; have hb03 := below_via HB2.out hb3; have b3 := B2.out.below hb3 B2.out.lt; have z0 : w3.cell? ⟨w.heap.size, 0, none⟩ = some (.int .i64 4) := b3.cell 0 rfl; have z1 : w3.cell? ⟨w.heap.size, 1, none⟩ = some (strV nm) := b3.cell 1 rfl; have z2 : w3.cell? ⟨w.heap.size, 2, none⟩ = some (strV to) := b3.cell 2 rfl; have z3 : w3.cell? ⟨w.heap.size, 3, none⟩ = some (.int .i64 q) := b3.cell 3 rfl; have z4 : w3.cell? ⟨w.heap.size, 4, none⟩ = some (.slice A n c) := b3.cell 4 rfl; have z5 : w3.cell? ⟨w.heap.size, 5, none⟩ = some (.slice A' n' c') := b3.cell 5 rfl; have HB3 := Lib.hid hb03; have HC3 := Lib.hid hc3; have HL3 := Lib.hid hl3; have HR3 := Lib.hid hr3; clear b3 hb3 hb03 hc3 hl3 hr3))
  go_wp2
  go_ret2
  exact ⟨A3, k3, c3, rfl, HC3.out, HL3.out, HR3.out, HB3.out⟩

set_option maxHeartbeats 1000000 in
theorem ApplyNo (A0 : Option Addr) (n0 c0 : Nat) (A : Option Addr) (n c : Nat) (A' : Option Addr) (n' c' : Nat) (k : Int) (nm to : List UInt8) (q : Int) (w : World)
    (hmay : ∀ w1, Below w.heap.size w w1 → Calls Try.prog 59 #[prV k nm to q A n c A' n' c'] w1 (TestEnd w1 false)) :
    Calls Try.prog 48 #[.slice A0 n0 c0, prV k nm to q A n c A' n' c'] w (DoEnd w (1, [])) := by
  have hbx : Below w.heap.size w (box w k nm to q A n c A' n' c') := (Below.refl _ _).alloc (Nat.le_refl _) _
  have HBX := Lib.hid hbx; have HM := Lib.hid hmay
  clear hbx hmay
  go_enter Try.func48, Try.ntmps48
  go_wp2_with fail
  refine (HM.out (box w k nm to q A n c A' n' c') HBX.out).mono ?_
  rintro e W ⟨rfl, hb1⟩
  have HB1 := Lib.hid (below_via HBX.out hb1)
  clear hb1
  go_wp2
  go_ret2
  exact doEnd_err rfl HB1.out

theorem doP_g (t : TR) (p : Ch) (h : mayP p = true) (hk : p.k ≠ 0) : doP t p = doG t p (get t p.nm) := by
  unfold doP
  rw [if_neg (by rw [h]; decide), if_neg hk]
  rfl
theorem doP_add (t : TR) (p : Ch) (h : mayP p = true) (hk : p.k = 0) : doP t p = if (get t p.nm).isSome then (5, []) else (0, put lt t p.nm []) := by
  unfold doP
  rw [if_neg (by rw [h]; decide), if_pos hk]

theorem ApplyP (A0 : Option Addr) (n0 c0 : Nat) (A : Option Addr) (n c : Nat) (A' : Option Addr) (n' c' : Nat) (t : TR) (p : Ch) (w : World) (hs : Wide t) (hn0 : t.length = n0) (hR : RdT w w.heap.size A0 t) (hv : PV w w.heap.size A n c A' n' c' p) :
    Calls Try.prog 48 #[.slice A0 n0 c0, prV p.k p.nm p.to p.h.pos A n c A' n' c'] w (DoEnd w (doP t p)) := by
  have hmay := fun w1 (hb : Below w.heap.size w w1) => MayP A n c A' n' c' p w1 (mayP p) (hv.mv hb) rfl
  cases hm : mayP p with
  | false =>
    rw [hm] at hmay
    have hd : doP t p = (1, []) := by unfold doP; rw [if_pos hm]
    rw [hd]
    exact ApplyNo A0 n0 c0 A n c A' n' c' p.k p.nm p.to p.h.pos w hmay
  | true =>
    rw [hm] at hmay
    have hc := mayP_cases.1 hm
    have hRt := fun w1 (hb : Below w.heap.size w w1) => rdT_mv hR hb
    obtain ⟨k, nm, to, h⟩ := p
    dsimp only at hmay hv hc ⊢
    rcases hc.2 with ⟨rfl | rfl, _, _⟩ | ⟨rfl, _, _, _⟩ | ⟨rfl, _, h3⟩ | ⟨rfl, _, h3, _⟩
    · exact ApplyP0 A0 n0 c0 A n c A' n' c' nm to h.pos w _ hmay (fun w1 hb => addM A0 n0 c0 A n c A' n' c' 0 nm to h.pos t w1 _ hs hn0 (hRt w1 hb) (doP_add t ⟨0, nm, to, h⟩ hm rfl).symm)
    · refine ApplyP1 A0 n0 c0 A n c A' n' c' nm to h.pos w _ hmay (fun w1 hb => removeM A0 n0 c0 A n c A' n' c' 1 nm to h.pos t w1 _ hs hn0 (hRt w1 hb) ?_)
      rw [doP_g t ⟨1, nm, to, h⟩ hm (by dsimp only; decide)]
      dsimp only
      cases get t nm <;> rfl
    · refine ApplyP2 A0 n0 c0 A n c A' n' c' nm to h.pos w _ hmay (fun w1 hb => moveM A0 n0 c0 A n c A' n' c' 2 nm to h.pos t w1 _ hs hn0 (hRt w1 hb) ?_)
      rw [doP_g t ⟨2, nm, to, h⟩ hm (by dsimp only; decide)]
      dsimp only
      cases get t nm <;> rfl
    · refine ApplyP3 A0 n0 c0 A n c A' n' c' nm to h.pos w _ hmay (fun w1 hb => patchM A0 n0 c0 A n c A' n' c' 3 nm to h.pos t w1 _ hs hn0 (hRt w1 hb) h rfl h3 (hv_mv hv.h hb) ?_)
      rw [doP_g t ⟨3, nm, to, h⟩ hm (by dsimp only; decide)]
      dsimp only
      cases get t nm <;> rfl
    · refine ApplyP4 A0 n0 c0 A n c A' n' c' nm to h.pos w _ hmay (fun w1 hb => setM A0 n0 c0 A n c A' n' c' 4 nm to h.pos t w1 _ hs hn0 (hRt w1 hb) h (by have := mayH_new h3; rw [hv.h.l'] at this; omega) (hv_mv hv.h hb) ?_)
      rw [doP_g t ⟨4, nm, to, h⟩ hm (by dsimp only; decide)]
      dsimp only
      cases hg : get t nm with
      | none => rfl
      | some l =>
        by_cases hl : l = h.old
        · simp [doG, lineE, lineL, hl]
        · simp [doG, lineE, lineL, hl]

end Pr
end Go.Proofs.Ytbiiabfhngdeiaa
