/-
  What Put of layer 7 returns (walk).
-/
import Derived.Test.YtfjllohhjpiphaaTrAgain
import Derived.Test.YtfjllohhjpiphaaTrFind
import Derived.Test.YtfjllohhjpiphaaTrParts
import Derived.Test.YtfjllohhjpiphaaTrIns
import Derived.Deep.AppendLies
import Derived.Deep.RegionHeld3
set_option maxRecDepth 100000
namespace Go.Proofs.Ytfjllohhjpiphaa
open Go.RowKit
set_option linter.unusedVariables false
namespace Tr
open Tx

/-- A file in the place of another one. -/
theorem put_upd {w w4 : World} {g n k h m : Nat} {t : TR} {xs : List Value} {s : List UInt8} {l : List (List UInt8)} (hrow : w4.ownsRow w.heap.size 48 2 (.slice (some ⟨g, 0, none⟩) n n) n xs) (hF : FCells w4 (some g) t xs) (hn : t.length = n) (hi : ixF (isN s) t = some k)
    (hm : l.length = m) (hr : RdX w4 (some g) (some ⟨h, 0, none⟩) l) (hb : Below w.heap.size w w4) :
    TreeEnd w (upd t s l) (.returned (.slice (some ⟨g, 0, none⟩) n n)) ((w4.setCell ⟨g, k * 2, none⟩ (strV s)).setCell ⟨g, k * 2 + 1, none⟩ (.slice (some ⟨h, 0, none⟩) m m)) := by
  subst hm
  obtain ⟨hk, _⟩ := ixF_some hi
  have hu := upd_set (l := l) hi
  obtain ⟨⟨xs', r1, r2⟩, r3⟩ := store_file (k := k) (t2 := upd t s l) (x := (s, l)) (A := some ⟨h, 0, none⟩) (c := l.length) hrow hF (fun j y hne hy => by
      rw [hu, List.getElem?_set_ne (fun e => hne e.symm)] at hy
      exact hy) (fun y hy => by
      rw [hu, List.getElem?_set_self hk] at hy
      injection hy with hy
      exact hy.symm) (by omega) (Nat.le_refl _) hr
  have hlen : (upd t s l).length = n := by rw [upd_len]; exact hn
  refine treeEnd_own (base := w.heap.size) ⟨xs', by rw [hlen]; exact r1, r2⟩ ?_
  have hg : w.heap.size ≤ g := (hrow.lt g rfl).1
  exact (hb.setCell (p := ⟨g, k * 2, none⟩) hg _).setCell (p := ⟨g, k * 2 + 1, none⟩) hg _

/-- One file more. -/
theorem put_ins {w w4 W W' : World} {g n p h m : Nat} {t : TR} {xs : List Value} {s : List UInt8} {l : List (List UInt8)} {e : Ending} (hxl : xs.length = n * 2) (hF : FCells w4 (some g) t xs) (hn : t.length = n) (hp : (ixF (gtN s) t).getD n = p)
    (hm : l.length = m) (hr : RdX w4 (some g) (some ⟨h, 0, none⟩) l) (hb : Below w.heap.size w w4) (hbW : Below w4.heap.size w4 W) (he : InsEnd W n p xs [strV s, .slice (some ⟨h, 0, none⟩) m m] e W') :
    TreeEnd w (ins Op.bytesLess t s l) e W' := by
  obtain ⟨g', cap, rfl, hown, hb2⟩ := he
  have hpl : p ≤ t.length := by rw [← hp, ← hn]; exact place_le
  have hF2 := (hF.ins (s := s) (by rw [hn]; exact hxl) hpl hm (Nat.le_refl _) hr)
  have hi : ins Op.bytesLess t s l = t.take p ++ (s, l) :: t.drop p := by rw [ins_ix, ← hn] at *; rw [hp]
  have hsz : w.heap.size ≤ W.heap.size := Nat.le_trans hb.size hbW.size
  have hF3 := hF2.turn (W' := W') (row' := some g') (hbW.trans (hb2.mono hbW.size)) (fun g0 e => by injection e with e; subst e; exact Nat.le_trans hbW.size (hown.lt g' rfl).1)
  rw [← hi] at hF3
  have hlen : (ins Op.bytesLess t s l).length = n + 1 := by rw [ins_len, hn]
  exact treeEnd_own (base := W.heap.size) ⟨_, by rw [hlen]; exact hown, hF3⟩ ((hb.trans (hbW.mono hb.size)).trans (hb2.mono hsz))

set_option maxRecDepth 100000 in
set_option maxHeartbeats 4000000 in
theorem Put (s : List UInt8) (A A' : Option Addr) (c n B m c' : Nat) (t : TR) (l : List (List UInt8)) (w : World) (hn : t.length = n) (hs : Wide t) (hm : l.length = m) (hm5 : m ≤ 8796093022208) (hB : B ≤ w.heap.size) (hR : RdT w B A t) (hR' : RdS w B A' l) :
    Calls Try.prog 70 #[.slice A n c, strV s, .slice A' m c'] w (TreeEnd w (put Op.bytesLess t s l)) := by
  have hln : n ≤ 3518437208800 := by rw [← hn]; exact hs.len
  have hI := fun w hB hR => find s A c n B t w hn hln hB hR
  have hP := fun w hB hR => place s A c n B t w hn hln hB hR
  have hG : ixF (isN s) t = none → get t s = none := get_ix_none
  have hG2 : ∀ k, ixF (isN s) t = some k → ∃ x, get t s = some x := fun k h => ⟨_, (get_ix h).2.2.1⟩
  have HN := Lib.hid hn; have HM := Lib.hid hm; have HS := Lib.hid hs; have R := Lib.hid hR; have R' := Lib.hid hR'
  have HI := Lib.hid hI; have HP := Lib.hid hP; have HG := Lib.hid hG; have HG2 := Lib.hid hG2
  clear hn hm hs hR hR' hI hP hG hG2
  go_enter Try.func70, Try.ntmps70
  go_wp2_with fail
  refine (againT A c n B t w HN.out HS.out hB R.out).mono ?_
  rintro e w1 ⟨rfl, ⟨xs, hrow, hF⟩, hb1⟩
  have HB1 := Lib.hid hb1; have HRW := Lib.hid hrow; have HF := Lib.hid hF
  clear hb1 hrow hF
  go_wp2_with fail
  refine (file s A' c' m B l w1 HM.out hm5 (Nat.le_trans hB HB1.out.size) (Rd.below R'.out (HB1.out.mono hB))).mono ?_
  rintro e w2 ⟨h, rfl, hr2, hb2⟩
  have hrow2 := own_gr HRW.out (below_gr_row hb2)
  have hF2 := HF.out.gr (gr_none (below_gr_row hb2))
  have hgw1 : w.heap.size < w1.heap.size := (HRW.out.lt _ rfl).2
  have hx2 := RdX.own hr2 hgw1
  have HB2 := Lib.hid (HB1.out.trans (hb2.mono HB1.out.size))
  have HRW2 := Lib.hid hrow2; have HF2 := Lib.hid hF2; have HX2 := Lib.hid hx2
  clear hr2 hb2 hrow2 hF2 hx2 HRW HF hgw1 HB1
  obtain ⟨g, hg⟩ : ∃ g, w.heap.size = g := ⟨_, rfl⟩
  have HP1 := Lib.hid (fun (w4 : World) (k : Nat) (hi : ixF (isN s) t = some k) hr ho hF hb => put_upd (w := w) (w4 := w4) (xs := xs) (s := s) (t := t) (n := n) (g := g) (k := k) (h := h) (m := m) (l := l) hr hF HN.out hi HM.out ho hb)
  have HP2 := Lib.hid (fun (w4 W W' : World) (p : Nat) (e : Ending) (hp : (ixF (gtN s) t).getD n = p) hF ho hb hbW he => put_ins (w := w) (w4 := w4) (W := W) (W' := W') (xs := xs) (s := s) (t := t) (n := n) (g := g) (p := p) (h := h) (m := m) (l := l) (e := e) HRW2.out.1 hF HN.out hp HM.out ho hb hbW he)
  have HGB : Hid (∀ W, Below g w W = Below w.heap.size w W) := Lib.hid (fun W => by rw [hg])
  rw [hg] at HB2 HRW2 HF2 HX2 hB ⊢
  have HGS := Lib.hid hg; clear hg
  obtain ⟨o, ho⟩ : ∃ o, ixF (isN s) t = o := ⟨_, rfl⟩
  rw [ho] at HI HG HG2
  have HW2 : Hid (g < w2.heap.size) := Lib.hid (HRW2.out.lt _ rfl).2
  have hbl := Blk.new w2 48 #[strV s, .slice (some ⟨h, 0, none⟩) m m]
  have hb3 : Below w2.heap.size w2 (w2.alloc (.cells #[strV s, .slice (some ⟨h, 0, none⟩) m m] 48)) := (Below.refl _ _).alloc (Nat.le_refl _) _
  have HBL := Lib.hid hbl; have HB3 := Lib.hid hb3
  clear hbl hb3
  cases o with
  | some k =>
    have HO := Lib.hid ho
    have hkn : k < n := by have := (ixF_some ho).1; rw [HN.out] at this; exact this
    clear ho
    go_wp2_with fail
    refine (HI.out (w2.alloc (.cells #[strV s, .slice (some ⟨h, 0, none⟩) m m] 48)) (Nat.le_trans hB (Nat.le_trans (Nat.le_of_lt HW2.out) HB3.out.size)) (R.out.below ((HB2.out.trans (HB3.out.mono (Nat.le_of_lt HW2.out))).mono hB))).mono ?_
    rintro e w4 ⟨rfl, hb4⟩
    simp only [ixV]
    have hg4 : w2.grownBy w4 none := (below_gr_row HB3.out).trans (below_gr_row hb4)
    have hbl4 := HBL.out.below hb4 HBL.out.lt
    have x0 : w4.cell? ⟨w2.heap.size, 0, none⟩ = some (strV s) := hbl4.cell 0 rfl
    have x1 : w4.cell? ⟨w2.heap.size, 1, none⟩ = some (.slice (some ⟨h, 0, none⟩) m m) := hbl4.cell 1 rfl
    obtain ⟨v0, v1, y0, y1, f0, f1⟩ := file_cells (own_gr HRW2.out hg4) hkn
    have he := HP1.out w4 k HO.out (by rw [HGS.out]; exact own_gr HRW2.out hg4) (HX2.out.gr (gr_none hg4)) (HF2.out.gr (gr_none hg4)) (by rw [← HGB.out]; exact HB2.out.grown hg4 (Nat.le_of_lt HW2.out) (fun k e => by cases e))
    have HE := Lib.hid he
    have hput : put Op.bytesLess t s l = upd t s l := by
      obtain ⟨y, hy⟩ := HG2.out k rfl
      unfold put; rw [hy]; rfl
    have HPUT := Lib.hid hput
    clear he hbl4 hg4 hb4 hput
    go_wp2
    go_ret
    rw [HPUT.out]
    exact HE.out
  | none =>
    clear ho
    go_wp2_with fail
    refine (HI.out (w2.alloc (.cells #[strV s, .slice (some ⟨h, 0, none⟩) m m] 48)) (Nat.le_trans hB (Nat.le_trans (Nat.le_of_lt HW2.out) HB3.out.size)) (R.out.below ((HB2.out.trans (HB3.out.mono (Nat.le_of_lt HW2.out))).mono hB))).mono ?_
    rintro e w4 ⟨rfl, hb4⟩
    simp only [ixV]
    have hg4 : w2.grownBy w4 none := (below_gr_row HB3.out).trans (below_gr_row hb4)
    have hbl4 := HBL.out.below hb4 HBL.out.lt
    obtain ⟨fb, hfb⟩ : ∃ fb, w2.heap.size = fb := ⟨_, rfl⟩
    rw [hfb] at hbl4 ⊢
    have x0 : w4.cell? ⟨fb, 0, none⟩ = some (strV s) := hbl4.cell 0 rfl
    have x1 : w4.cell? ⟨fb, 1, none⟩ = some (.slice (some ⟨h, 0, none⟩) m m) := hbl4.cell 1 rfl
    have hrow4 := own_gr HRW2.out hg4
    have hF4 := HF2.out.gr (gr_none hg4)
    have hx4 := HX2.out.gr (gr_none hg4)
    have hbb4 : Below g w w4 := HB2.out.grown hg4 (Nat.le_of_lt HW2.out) (fun k e => by cases e)
    have hput : put Op.bytesLess t s l = ins Op.bytesLess t s l := by unfold put; rw [HG.out (by trivial)]; rfl
    have hg4s : g ≤ w4.heap.size := Nat.le_of_lt (hrow4.lt g rfl).2
    have hone := hF4.one_cell (by rw [HN.out]; exact hrow4.1)
    obtain ⟨p, hp⟩ : ∃ p, (ixF (gtN s) t).getD n = p := ⟨_, rfl⟩
    have hpn : p ≤ n := by rw [← hp, ← HN.out]; exact place_le
    have hEND := fun (W W' : World) (e : Ending) (hbW : Below w4.heap.size w4 W) (he : InsEnd W n p xs [strV s, .slice (some ⟨h, 0, none⟩) m m] e W') => HP2.out w4 W W' p e hp hF4 hx4 (by rw [← HGB.out]; exact hbb4) hbW he
    rw [hp] at HP
    have hPL : ∀ W, Below w4.heap.size w4 W → Calls Try.prog 82 #[.slice A n c, strV s] W (IntEnd W (p : Int)) := fun W hb => HP.out W (Nat.le_trans hB (Nat.le_trans hg4s hb.size)) (R.out.below ((hbb4.trans (hb.mono hg4s)).mono hB))
    have hINS : ∀ W vb, Below w4.heap.size w4 W → Blk W vb 48 #[strV s, .slice (some ⟨h, 0, none⟩) m m] → Calls Try.prog 81 #[.slice (some ⟨g, 0, none⟩) n n, .int .i64 (p : Int), .slice (some ⟨vb, 0, none⟩) 1 1] W (InsEnd W n p xs [strV s, .slice (some ⟨h, 0, none⟩) m m]) := fun W vb hb hv =>
      Insert g n p g vb xs _ W hln hpn (own_gr hrow4 (below_gr_row hb)) (World.news_of_block (cs := #[strV s, .slice (some ⟨h, 0, none⟩) m m]) (t := 48) (fr := (0, 0)) hv) rfl hone (by simp [Value.oneCell']) hv.lt
    have HEND := Lib.hid hEND; have HPL := Lib.hid hPL; have HINS := Lib.hid hINS; have HPUT := Lib.hid hput
    clear hEND hPL hINS hput hg4s hone hbb4 hx4 hF4 hrow4 hbl4 hg4 hb4 hfb HP1 HP2 HGB HI HG HG2 HBL HB3 HRW2 HF2 HX2 HB2
    have HX : Hid (∀ W, Below w4.heap.size w4 W → W.cell? ⟨fb, 0, none⟩ = some (strV s) ∧ W.cell? ⟨fb, 1, none⟩ = some (.slice (some ⟨h, 0, none⟩) m m)) := Lib.hid (fun W hb => ⟨(hb.cell (p := ⟨fb, 0, none⟩) (World.block_lt_of_cell? w4 _ x0)).trans x0, (hb.cell (p := ⟨fb, 1, none⟩) (World.block_lt_of_cell? w4 _ x1)).trans x1⟩)
    have HB0 : Hid (Below w4.heap.size w4 w4.drew) := Lib.hid (below_drewN (Below.refl _ w4) 1)
    have HBA : Hid (Below w4.heap.size w4 (w4.alloc (.cells #[strV s, .slice (some ⟨h, 0, none⟩) m m] 48)).drew) := Lib.hid (below_drewN ((Below.refl _ w4).alloc (Nat.le_refl _) _) 1)
    have HVA : Hid (Blk (w4.alloc (.cells #[strV s, .slice (some ⟨h, 0, none⟩) m m] 48)).drew w4.heap.size 48 #[strV s, .slice (some ⟨h, 0, none⟩) m m]) := Lib.hid (Blk.new w4 _ _)
    have hS0 := HX.out w4.drew HB0.out
    have hSA := HX.out (w4.alloc (.cells #[strV s, .slice (some ⟨h, 0, none⟩) m m] 48)).drew HBA.out
    have hSB := HX.out (w4.alloc (.cells #[strV s, .slice (some ⟨h, 0, none⟩) m m] 48)) ((Below.refl _ w4).alloc (Nat.le_refl _) _)
    go_wp2_with fail
    go_region_held3 (fun W => W.cell? ⟨fb, 0, none⟩ = some (strV s) ∧ W.cell? ⟨fb, 1, none⟩ = some (.slice (some ⟨h, 0, none⟩) m m))
      (first
        | (exact hS0)
        | (exact hSA)
        | (exact hSB)
        | (exact hS1)
        | (exact hS2)
        | (exact hS3)
        | go_keep)
      (first
        | (go_at_call 82; (with_reducible refine (HPL.out w4.drew HB0.out).mono ?_); rintro e w5 ⟨rfl, hb⟩; have hbc := HB0.out.trans (hb.mono HB0.out.size); have hS1 := HX.out w5 hbc; have hba := hbc.alloc hbc.size (.cells #[strV s, .slice (some ⟨h, 0, none⟩) m m] 48); have hS3 := HX.out (w5.alloc (.cells #[strV s, .slice (some ⟨h, 0, none⟩) m m] 48)) hba; have HU5 := Lib.hid hba; have HV5 := Lib.hid (Blk.new w5 48 #[strV s, .slice (some ⟨h, 0, none⟩) m m]); clear hb hbc hba)
        | (go_at_call 82; (with_reducible refine (HPL.out (w4.alloc (.cells #[strV s, .slice (some ⟨h, 0, none⟩) m m] 48)).drew HBA.out).mono ?_); rintro e w5 ⟨rfl, hb⟩; have hbc := HBA.out.trans (hb.mono HBA.out.size); have hS1 := HX.out w5 hbc; have HU5 := Lib.hid hbc; have HV5 := Lib.hid (HVA.out.below hb HVA.out.lt); clear hb hbc)
        | (go_at_call 81; (with_reducible refine (HINS.out (w5.alloc (.cells #[strV s, .slice (some ⟨h, 0, none⟩) m m] 48)) w5.heap.size HU5.out HV5.out).mono ?_); rintro e w6 ⟨g', cap, rfl, ho, hb6⟩; have HE6 := Lib.hid (HEND.out (w5.alloc (.cells #[strV s, .slice (some ⟨h, 0, none⟩) m m] 48)) w6 _ HU5.out ⟨g', cap, rfl, ho, hb6⟩); have hS2 := HX.out w6 (HU5.out.trans (hb6.mono HU5.out.size)); clear ho hb6)
        | (go_at_call 81; (with_reducible refine (HINS.out w5 w4.heap.size HU5.out HV5.out).mono ?_); rintro e w6 ⟨g', cap, rfl, ho, hb6⟩; have HE6 := Lib.hid (HEND.out w5 w6 _ HU5.out ⟨g', cap, rfl, ho, hb6⟩); have hS2 := HX.out w6 (HU5.out.trans (hb6.mono HU5.out.size)); clear ho hb6))
    all_goals
      go_wp2
      go_ret
      rw [HPUT.out]
      exact HE6.out

end Tr
end Go.Proofs.Ytfjllohhjpiphaa
