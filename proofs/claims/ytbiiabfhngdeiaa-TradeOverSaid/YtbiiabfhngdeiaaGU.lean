/-
  Words and contracts, joined: TrPut TrDelT TrSame TrLaw.
-/
import Derived.Test.YtbiiabfhngdeiaaGT
import Derived.Test.YtbiiabfhngdeiaaTrIns
import Derived.Deep.AppendLies
import Derived.Deep.RegionHeld3
import Derived.Test.YtbiiabfhngdeiaaTrDel
import Derived.Test.YtbiiabfhngdeiaaGQ
import Derived.BigQuiet
set_option maxRecDepth 100000
namespace Go.Proofs.Ytbiiabfhngdeiaa
open Go.RowKit
set_option linter.unusedVariables false
namespace Tr
open Tx

/-- A file in the place of another one. -/
theorem put_upd {w w4 : World} {g n k h m : Nat} {t : TR} {xs : List Value} {s : List UInt8} {l : List (List UInt8)} (hrow : w4.ownsRow w.heap.size 66 2 (.slice (some ⟨g, 0, none⟩) n n) n xs) (hF : FCells w4 (some g) t xs) (hn : t.length = n) (hi : ixF (isN s) t = some k)
    (hm : l.length = m) (hr : RdX w4 (some g) (some ⟨h, 0, none⟩) l) (hb : Below w.heap.size w w4) :
    TreeEnd w (upd t s l) (.returned (.slice (some ⟨g, 0, none⟩) n n)) ((w4.setCell ⟨g, k * 2, none⟩ (strV s)).setCell ⟨g, k * 2 + 1, none⟩ (.slice (some ⟨h, 0, none⟩) m m)) := by
  subst hm
  obtain ⟨hk, _⟩ := ixF_some hi
  have hu := upd_set (l := l) hi
  obtain ⟨⟨xs', r1, r2⟩, r3⟩ := store_file (k := k) (t2 := upd t s l) (x := (s, l)) (A := some ⟨h, 0, none⟩) (c := l.length) hrow hF (fun j y hne hy => by
      rw [hu, List.getElem?_set_ne (fun e => hne e.symm)] at hy
      exact hy) (fun y hy => by
      rw [hu, List.getElem?_set_self hk] at hy
      injection hy with hy
      exact hy.symm) (by omega) (Nat.le_refl _) hr
  have hlen : (upd t s l).length = n := by rw [upd_len]; exact hn
  refine treeEnd_own (base := w.heap.size) ⟨xs', by rw [hlen]; exact r1, r2⟩ ?_
  have hg : w.heap.size ≤ g := (hrow.lt g rfl).1
  exact (hb.setCell (p := ⟨g, k * 2, none⟩) hg _).setCell (p := ⟨g, k * 2 + 1, none⟩) hg _

/-- One file more. -/
theorem put_ins {w w4 W W' : World} {g n p h m : Nat} {t : TR} {xs : List Value} {s : List UInt8} {l : List (List UInt8)} {e : Ending} (hxl : xs.length = n * 2) (hF : FCells w4 (some g) t xs) (hn : t.length = n) (hp : (ixF (gtN s) t).getD n = p)
    (hm : l.length = m) (hr : RdX w4 (some g) (some ⟨h, 0, none⟩) l) (hb : Below w.heap.size w w4) (hbW : Below w4.heap.size w4 W) (he : InsEnd W n p xs [strV s, .slice (some ⟨h, 0, none⟩) m m] e W') :
    TreeEnd w (ins Op.bytesLess t s l) e W' := by
  obtain ⟨g', cap, rfl, hown, hb2⟩ := he
  have hpl : p ≤ t.length := by rw [← hp, ← hn]; exact place_le
  have hF2 := (hF.ins (s := s) (by rw [hn]; exact hxl) hpl hm (Nat.le_refl _) hr)
  have hi : ins Op.bytesLess t s l = t.take p ++ (s, l) :: t.drop p := by rw [ins_ix, ← hn] at *; rw [hp]
  have hsz : w.heap.size ≤ W.heap.size := Nat.le_trans hb.size hbW.size
  have hF3 := hF2.turn (W' := W') (row' := some g') (hbW.trans (hb2.mono hbW.size)) (fun g0 e => by injection e with e; subst e; exact Nat.le_trans hbW.size (hown.lt g' rfl).1)
  rw [← hi] at hF3
  have hlen : (ins Op.bytesLess t s l).length = n + 1 := by rw [ins_len, hn]
  exact treeEnd_own (base := W.heap.size) ⟨_, by rw [hlen]; exact hown, hF3⟩ ((hb.trans (hbW.mono hb.size)).trans (hb2.mono hsz))

set_option maxRecDepth 100000 in
set_option maxHeartbeats 4000000 in
theorem Put (s : List UInt8) (A A' : Option Addr) (c n B m c' : Nat) (t : TR) (l : List (List UInt8)) (w : World) (hn : t.length = n) (hs : Wide t) (hm : l.length = m) (hm5 : m ≤ 8796093022208) (hB : B ≤ w.heap.size) (hR : RdT w B A t) (hR' : RdS w B A' l) :
    Calls Try.prog 93 #[.slice A n c, strV s, .slice A' m c'] w (TreeEnd w (put Op.bytesLess t s l)) := by
  have hln : n ≤ 3518437208800 := by rw [← hn]; exact hs.len
  have hI := fun w hB hR => find s A c n B t w hn hln hB hR
  have hP := fun w hB hR => place s A c n B t w hn hln hB hR
  have hG : ixF (isN s) t = none → get t s = none := get_ix_none
  have hG2 : ∀ k, ixF (isN s) t = some k → ∃ x, get t s = some x := fun k h => ⟨_, (get_ix h).2.2.1⟩
  have HN := Lib.hid hn; have HM := Lib.hid hm; have HS := Lib.hid hs; have R := Lib.hid hR; have R' := Lib.hid hR'
  have HI := Lib.hid hI; have HP := Lib.hid hP; have HG := Lib.hid hG; have HG2 := Lib.hid hG2
  clear hn hm hs hR hR' hI hP hG hG2
  go_enter Try.func93, Try.ntmps93
  go_wp2_with fail
  refine (againT A c n B t w HN.out HS.out hB R.out).mono ?_
  rintro e w1 ⟨rfl, ⟨xs, hrow, hF⟩, hb1⟩
  have HB1 := Lib.hid hb1; have HRW := Lib.hid hrow; have HF := Lib.hid hF
  clear hb1 hrow hF
  go_wp2_with fail
  refine (file s A' c' m B l w1 HM.out hm5 (Nat.le_trans hB HB1.out.size) (Rd.below R'.out (HB1.out.mono hB))).mono ?_
  rintro e w2 ⟨h, rfl, hr2, hb2⟩
  have hrow2 := own_gr HRW.out (below_gr_row hb2)
  have hF2 := HF.out.gr (gr_none (below_gr_row hb2))
  have hgw1 : w.heap.size < w1.heap.size := (HRW.out.lt _ rfl).2
  have hx2 := RdX.own hr2 hgw1
  have HB2 := Lib.hid (HB1.out.trans (hb2.mono HB1.out.size))
  have HRW2 := Lib.hid hrow2; have HF2 := Lib.hid hF2; have HX2 := Lib.hid hx2
  clear hr2 hb2 hrow2 hF2 hx2 HRW HF hgw1 HB1
  obtain ⟨g, hg⟩ : ∃ g, w.heap.size = g := ⟨_, rfl⟩
  have HP1 := Lib.hid (fun (w4 : World) (k : Nat) (hi : ixF (isN s) t = some k) hr ho hF hb => put_upd (w := w) (w4 := w4) (xs := xs) (s := s) (t := t) (n := n) (g := g) (k := k) (h := h) (m := m) (l := l) hr hF HN.out hi HM.out ho hb)
  have HP2 := Lib.hid (fun (w4 W W' : World) (p : Nat) (e : Ending) (hp : (ixF (gtN s) t).getD n = p) hF ho hb hbW he => put_ins (w := w) (w4 := w4) (W := W) (W' := W') (xs := xs) (s := s) (t := t) (n := n) (g := g) (p := p) (h := h) (m := m) (l := l) (e := e) HRW2.out.1 hF HN.out hp HM.out ho hb hbW he)
  have HGB : Hid (∀ W, Below g w W = Below w.heap.size w W) := Lib.hid (fun W => by rw [hg])
  rw [hg] at HB2 HRW2 HF2 HX2 hB ⊢
  have HGS := Lib.hid hg; clear hg
  obtain ⟨o, ho⟩ : ∃ o, ixF (isN s) t = o := ⟨_, rfl⟩
  rw [ho] at HI HG HG2
  have HW2 : Hid (g < w2.heap.size) := Lib.hid (HRW2.out.lt _ rfl).2
  have hbl := Blk.new w2 66 #[strV s, .slice (some ⟨h, 0, none⟩) m m]
  have hb3 : Below w2.heap.size w2 (w2.alloc (.cells #[strV s, .slice (some ⟨h, 0, none⟩) m m] 66)) := (Below.refl _ _).alloc (Nat.le_refl _) _
  have HBL := Lib.hid hbl; have HB3 := Lib.hid hb3
  clear hbl hb3
  cases o with
  | some k =>
    have HO := Lib.hid ho
    have hkn : k < n := by have := (ixF_some ho).1; rw [HN.out] at this; exact this
    clear ho
    go_wp2_with fail
    refine (HI.out (w2.alloc (.cells #[strV s, .slice (some ⟨h, 0, none⟩) m m] 66)) (Nat.le_trans hB (Nat.le_trans (Nat.le_of_lt HW2.out) HB3.out.size)) (R.out.below ((HB2.out.trans (HB3.out.mono (Nat.le_of_lt HW2.out))).mono hB))).mono ?_
    rintro e w4 ⟨rfl, hb4⟩
    simp only [ixV]
    have hg4 : w2.grownBy w4 none := (below_gr_row HB3.out).trans (below_gr_row hb4)
    have hbl4 := HBL.out.below hb4 HBL.out.lt
    have x0 : w4.cell? ⟨w2.heap.size, 0, none⟩ = some (strV s) := hbl4.cell 0 rfl
    have x1 : w4.cell? ⟨w2.heap.size, 1, none⟩ = some (.slice (some ⟨h, 0, none⟩) m m) := hbl4.cell 1 rfl
    obtain ⟨v0, v1, y0, y1, f0, f1⟩ := file_cells (own_gr HRW2.out hg4) hkn
    have he := HP1.out w4 k HO.out (by rw [HGS.out]; exact own_gr HRW2.out hg4) (HX2.out.gr (gr_none hg4)) (HF2.out.gr (gr_none hg4)) (by rw [← HGB.out]; exact HB2.out.grown hg4 (Nat.le_of_lt HW2.out) (fun k e => by cases e))
    have HE := Lib.hid he
    have hput : put Op.bytesLess t s l = upd t s l := by
      obtain ⟨y, hy⟩ := HG2.out k rfl
      unfold put; rw [hy]; rfl
    have HPUT := Lib.hid hput
    clear he hbl4 hg4 hb4 hput
    go_wp2
    go_ret
    rw [HPUT.out]
    exact HE.out
  | none =>
    clear ho
    go_wp2_with fail
    refine (HI.out (w2.alloc (.cells #[strV s, .slice (some ⟨h, 0, none⟩) m m] 66)) (Nat.le_trans hB (Nat.le_trans (Nat.le_of_lt HW2.out) HB3.out.size)) (R.out.below ((HB2.out.trans (HB3.out.mono (Nat.le_of_lt HW2.out))).mono hB))).mono ?_
    rintro e w4 ⟨rfl, hb4⟩
    simp only [ixV]
    have hg4 : w2.grownBy w4 none := (below_gr_row HB3.out).trans (below_gr_row hb4)
    have hbl4 := HBL.out.below hb4 HBL.out.lt
    obtain ⟨fb, hfb⟩ : ∃ fb, w2.heap.size = fb := ⟨_, rfl⟩
    rw [hfb] at hbl4 ⊢
    have x0 : w4.cell? ⟨fb, 0, none⟩ = some (strV s) := hbl4.cell 0 rfl
    have x1 : w4.cell? ⟨fb, 1, none⟩ = some (.slice (some ⟨h, 0, none⟩) m m) := hbl4.cell 1 rfl
    have hrow4 := own_gr HRW2.out hg4
    have hF4 := HF2.out.gr (gr_none hg4)
    have hx4 := HX2.out.gr (gr_none hg4)
    have hbb4 : Below g w w4 := HB2.out.grown hg4 (Nat.le_of_lt HW2.out) (fun k e => by cases e)
    have hput : put Op.bytesLess t s l = ins Op.bytesLess t s l := by unfold put; rw [HG.out (by trivial)]; rfl
    have hg4s : g ≤ w4.heap.size := Nat.le_of_lt (hrow4.lt g rfl).2
    have hone := hF4.one_cell (by rw [HN.out]; exact hrow4.1)
    obtain ⟨p, hp⟩ : ∃ p, (ixF (gtN s) t).getD n = p := ⟨_, rfl⟩
    have hpn : p ≤ n := by rw [← hp, ← HN.out]; exact place_le
    have hEND := fun (W W' : World) (e : Ending) (hbW : Below w4.heap.size w4 W) (he : InsEnd W n p xs [strV s, .slice (some ⟨h, 0, none⟩) m m] e W') => HP2.out w4 W W' p e hp hF4 hx4 (by rw [← HGB.out]; exact hbb4) hbW he
    rw [hp] at HP
    have hPL : ∀ W, Below w4.heap.size w4 W → Calls Try.prog 107 #[.slice A n c, strV s] W (IntEnd W (p : Int)) := fun W hb => HP.out W (Nat.le_trans hB (Nat.le_trans hg4s hb.size)) (R.out.below ((hbb4.trans (hb.mono hg4s)).mono hB))
    have hINS : ∀ W vb, Below w4.heap.size w4 W → Blk W vb 66 #[strV s, .slice (some ⟨h, 0, none⟩) m m] → Calls Try.prog 106 #[.slice (some ⟨g, 0, none⟩) n n, .int .i64 (p : Int), .slice (some ⟨vb, 0, none⟩) 1 1] W (InsEnd W n p xs [strV s, .slice (some ⟨h, 0, none⟩) m m]) := fun W vb hb hv =>
      Insert g n p g vb xs _ W hln hpn (own_gr hrow4 (below_gr_row hb)) (World.news_of_block (cs := #[strV s, .slice (some ⟨h, 0, none⟩) m m]) (t := 66) (fr := (0, 0)) hv) rfl hone (by simp [Value.oneCell']) hv.lt
    have HEND := Lib.hid hEND; have HPL := Lib.hid hPL; have HINS := Lib.hid hINS; have HPUT := Lib.hid hput
    clear hEND hPL hINS hput hg4s hone hbb4 hx4 hF4 hrow4 hbl4 hg4 hb4 hfb HP1 HP2 HGB HI HG HG2 HBL HB3 HRW2 HF2 HX2 HB2
    have HX : Hid (∀ W, Below w4.heap.size w4 W → W.cell? ⟨fb, 0, none⟩ = some (strV s) ∧ W.cell? ⟨fb, 1, none⟩ = some (.slice (some ⟨h, 0, none⟩) m m)) := Lib.hid (fun W hb => ⟨(hb.cell (p := ⟨fb, 0, none⟩) (World.block_lt_of_cell? w4 _ x0)).trans x0, (hb.cell (p := ⟨fb, 1, none⟩) (World.block_lt_of_cell? w4 _ x1)).trans x1⟩)
    have HB0 : Hid (Below w4.heap.size w4 w4.drew) := Lib.hid (below_drewN (Below.refl _ w4) 1)
    have HBA : Hid (Below w4.heap.size w4 (w4.alloc (.cells #[strV s, .slice (some ⟨h, 0, none⟩) m m] 66)).drew) := Lib.hid (below_drewN ((Below.refl _ w4).alloc (Nat.le_refl _) _) 1)
    have HVA : Hid (Blk (w4.alloc (.cells #[strV s, .slice (some ⟨h, 0, none⟩) m m] 66)).drew w4.heap.size 66 #[strV s, .slice (some ⟨h, 0, none⟩) m m]) := Lib.hid (Blk.new w4 _ _)
    have hS0 := HX.out w4.drew HB0.out
    have hSA := HX.out (w4.alloc (.cells #[strV s, .slice (some ⟨h, 0, none⟩) m m] 66)).drew HBA.out
    have hSB := HX.out (w4.alloc (.cells #[strV s, .slice (some ⟨h, 0, none⟩) m m] 66)) ((Below.refl _ w4).alloc (Nat.le_refl _) _)
    go_wp2_with fail
    go_region_held3 (fun W => W.cell? ⟨fb, 0, none⟩ = some (strV s) ∧ W.cell? ⟨fb, 1, none⟩ = some (.slice (some ⟨h, 0, none⟩) m m))
      (first
        | (exact hS0)
        | (exact hSA)
        | (exact hSB)
        | (exact hS1)
        | (exact hS2)
        | (exact hS3)
        | go_keep)
      (first
        | (go_at_call 107; (with_reducible refine (HPL.out w4.drew HB0.out).mono ?_); rintro e w5 ⟨rfl, hb⟩; have hbc := HB0.out.trans (hb.mono HB0.out.size); have hS1 := HX.out w5 hbc; have hba := hbc.alloc hbc.size (.cells #[strV s, .slice (some ⟨h, 0, none⟩) m m] 66); have hS3 := HX.out (w5.alloc (.cells #[strV s, .slice (some ⟨h, 0, none⟩) m m] 66)) hba; have HU5 := Lib.hid hba; have HV5 := Lib.hid (Blk.new w5 66 #[strV s, .slice (some ⟨h, 0, none⟩) m m]); clear hb hbc hba)
        | (go_at_call 107; (with_reducible refine (HPL.out (w4.alloc (.cells #[strV s, .slice (some ⟨h, 0, none⟩) m m] 66)).drew HBA.out).mono ?_); rintro e w5 ⟨rfl, hb⟩; have hbc := HBA.out.trans (hb.mono HBA.out.size); have hS1 := HX.out w5 hbc; have HU5 := Lib.hid hbc; have HV5 := Lib.hid (HVA.out.below hb HVA.out.lt); clear hb hbc)
        | (go_at_call 106; (with_reducible refine (HINS.out (w5.alloc (.cells #[strV s, .slice (some ⟨h, 0, none⟩) m m] 66)) w5.heap.size HU5.out HV5.out).mono ?_); rintro e w6 ⟨g', cap, rfl, ho, hb6⟩; have HE6 := Lib.hid (HEND.out (w5.alloc (.cells #[strV s, .slice (some ⟨h, 0, none⟩) m m] 66)) w6 _ HU5.out ⟨g', cap, rfl, ho, hb6⟩); have hS2 := HX.out w6 (HU5.out.trans (hb6.mono HU5.out.size)); clear ho hb6)
        | (go_at_call 106; (with_reducible refine (HINS.out w5 w4.heap.size HU5.out HV5.out).mono ?_); rintro e w6 ⟨g', cap, rfl, ho, hb6⟩; have HE6 := Lib.hid (HEND.out w5 w6 _ HU5.out ⟨g', cap, rfl, ho, hb6⟩); have hS2 := HX.out w6 (HU5.out.trans (hb6.mono HU5.out.size)); clear ho hb6))
    all_goals
      go_wp2
      go_ret
      rw [HPUT.out]
      exact HE6.out

end Tr
end Go.Proofs.Ytbiiabfhngdeiaa

namespace Go.Proofs.Ytbiiabfhngdeiaa
open Go.RowKit
set_option linter.unusedVariables false
namespace Tr
open Tx

theorem del_end {w w4 w' : World} {g n k : Nat} {t : TR} {xs : List Value} {s : List UInt8} {e : Ending} (hrow : w4.ownsRow w.heap.size 66 2 (.slice (some ⟨g, 0, none⟩) n n) n xs) (hF : FCells w4 (some g) t xs) (hn : t.length = n) (hi : ixF (isN s) t = some k) (hb : Below w.heap.size w w4)
    (he : DeleteEnd w4 w.heap.size g n k xs e w') : TreeEnd w (del t s) e w' := by
  obtain ⟨rfl, ho, hg⟩ := he
  obtain ⟨hk, h1, _, h3⟩ := get_ix hi
  have hd := del_at hk h1 h3
  have hlen : (del t s).length = k + (n - (k + 1)) := by rw [hd, List.length_append, List.length_take, List.length_drop]; omega
  have hF2 := (hF.gr hg).del (p := k) (by rw [hn]; exact hrow.1) (Nat.le_of_lt hk)
  rw [← hd] at hF2
  refine treeEnd_own (base := w.heap.size) ⟨_, by rw [hlen]; exact ho, hF2⟩ (hb.grown hg (Nat.le_trans hb.size (Nat.le_refl _)) fun j e => by injection e with e; subst e; exact (hrow.lt _ rfl).1)

set_option maxHeartbeats 1000000 in
theorem Del (s : List UInt8) (A : Option Addr) (c n B : Nat) (t : TR) (w : World) (hn : t.length = n) (hs : Wide t) (hB : B ≤ w.heap.size) (hR : RdT w B A t) :
    Calls Try.prog 94 #[.slice A n c, strV s] w (TreeEnd w (del t s)) := by
  have hln : n ≤ 3518437208800 := by rw [← hn]; exact hs.len
  have hI := fun w hB hR => find s A c n B t w hn hln hB hR
  have HN := Lib.hid hn; have HS := Lib.hid hs; have R := Lib.hid hR
  obtain ⟨o, ho⟩ : ∃ o, ixF (isN s) t = o := ⟨_, rfl⟩
  rw [ho] at hI
  have HI := Lib.hid hI
  clear hn hs hR hI
  go_enter Try.func94, Try.ntmps94
  go_wp2_with fail
  refine (againT A c n B t w HN.out HS.out hB R.out).mono ?_
  rintro e w1 ⟨rfl, ⟨xs, hrow, hF⟩, hb1⟩
  have HB1 := Lib.hid hb1; have HRW := Lib.hid hrow; have HF := Lib.hid hF
  clear hb1 hrow hF
  have hgw1 : w.heap.size < w1.heap.size := (HRW.out.lt _ rfl).2
  have hone := HF.out.one_cell (by rw [HN.out]; exact HRW.out.1)
  cases o with
  | none =>
    have hd := del_no (get_ix_none ho)
    have he : TreeEnd w (del t s) (.returned (.slice (some ⟨w.heap.size, 0, none⟩) n n)) w1 := by
      rw [hd]
      exact treeEnd_own (base := w.heap.size) ⟨xs, by rw [HN.out]; exact HRW.out, HF.out⟩ HB1.out
    have hee : ∀ w2, Below w1.heap.size w1 w2 → TreeEnd w (del t s) (.returned (.slice (some ⟨w.heap.size, 0, none⟩) n n)) w2 := fun w2 hb2 => by
      obtain ⟨A, c, e1, e2, e3, e4⟩ := he
      exact ⟨A, c, e1, e2, (e3.below hb2).up hb2.size, e4.trans (hb2.mono e4.size)⟩
    have HEE := Lib.hid hee
    clear ho hd he hee hone
    obtain ⟨g, hg⟩ : ∃ g, w.heap.size = g := ⟨_, rfl⟩
    rw [hg] at HEE HB1 hB hgw1 ⊢
    clear hg HRW HF
    go_wp2_with fail
    refine (HI.out w1 (Nat.le_trans hB (Nat.le_of_lt hgw1)) (R.out.below (HB1.out.mono hB))).mono ?_
    rintro e w4 ⟨rfl, hb4⟩
    simp only [ixV]
    have HE4 := Lib.hid (HEE.out w4 hb4)
    clear hb4
    go_wp2
    go_ret
    exact HE4.out
  | some k =>
    have hkn : k < n := by have := (ixF_some ho).1; rw [HN.out] at this; exact this
    have hE := fun (w4 w' : World) (e : Ending) hr hF hb he => del_end (w := w) (w4 := w4) (w' := w') (g := w.heap.size) (n := n) (k := k) (t := t) (xs := xs) (s := s) (e := e) hr hF HN.out ho hb he
    have HE := Lib.hid hE
    clear ho hE
    have hln' := hln
    have HB1' := Lib.hid HB1.out
    obtain ⟨g, hg⟩ : ∃ g, w.heap.size = g := ⟨_, rfl⟩
    rw [hg] at HE HB1 HRW HF hB hgw1 ⊢
    clear hg
    go_wp2_with fail
    refine (HI.out w1 (Nat.le_trans hB (Nat.le_of_lt hgw1)) (R.out.below (HB1.out.mono hB))).mono ?_
    rintro e w4 ⟨rfl, hb4⟩
    simp only [ixV]
    have hrow4 := own_gr HRW.out (below_gr_row hb4)
    have hend := fun w' e he => HE.out w4 w' e hrow4 (HF.out.gr (gr_none (below_gr_row hb4))) (HB1.out.trans (hb4.mono (Nat.le_of_lt hgw1))) he
    have HROW4 := Lib.hid hrow4; have HEND := Lib.hid hend; have HONE := Lib.hid hone
    clear hrow4 hend hb4 hone
    go_wp2_with fail
    refine (Delete g n k g xs w4 hln hkn HROW4.out HONE.out).mono ?_
    rintro e w5 ⟨rfl, ho5, hg5⟩
    have HE5 := Lib.hid (HEND.out w5 _ ⟨rfl, ho5, hg5⟩)
    clear ho5 hg5
    go_wp2
    go_ret
    exact HE5.out

end Tr
end Go.Proofs.Ytbiiabfhngdeiaa

namespace Go.Proofs.Ytbiiabfhngdeiaa
open Go.RowKit
set_option linter.unusedVariables false
namespace Tr
open Tx

set_option maxHeartbeats 1000000 in
theorem same (s s' : List UInt8) (A A' : Option Addr) (n c n' c' B : Nat) (ls ms : List (List UInt8)) (w : World) (hn : ls.length = n) (hn' : ms.length = n') (hnm : n ≤ maxLen) (hB : B ≤ w.heap.size) (hR : RdS w B A ls) (hR' : RdS w B A' ms) :
    Calls Try.prog 34 #[flV s A n c, flV s' A' n' c'] w (BoolEnd w (decide ((s, ls) = (s', ms)))) := by
  have HN := Lib.hid hn; have HN' := Lib.hid hn'; have R := Lib.hid hR; have R' := Lib.hid hR'
  clear hn hn' hR hR'
  have hw : Below w.heap.size w ((w.alloc (.cells #[strV s, .slice A n c] 66)).alloc (.cells #[strV s', .slice A' n' c'] 66)) := ((Below.refl _ _).alloc (Nat.le_refl _) _).alloc (by simp) _
  have HW := Lib.hid hw; clear hw
  by_cases he : s = s'
  · subst he
    have HD : Hid (decide ((s, ls) = (s, ms)) = decide (ls = ms)) := Lib.hid (by simp)
    go_enter Try.func34, Try.ntmps34
    go_wp2_with fail
    refine (EqualS A A' c c' n n' B ls ms _ HN.out HN'.out hnm (Rd.below R.out (HW.out.mono hB)) (Rd.below R'.out (HW.out.mono hB))).mono ?_
    rintro e w1 ⟨rfl, d, rfl⟩
    go_wp2
    go_ret
    exact ⟨ret_bool HD.out.symm, below_drewN HW.out _⟩
  · have HD : Hid (decide ((s, ls) = (s', ms)) = false) := Lib.hid (decide_eq_false (fun e => he (by injection e)))
    have h1 : (s == s') = false := by simpa using he
    clear he
    go_enter Try.func34, Try.ntmps34
    go_wp2
    go_ret
    exact ⟨ret_bool HD.out.symm, HW.out⟩

set_option maxHeartbeats 2000000 in
theorem EqualF (A A' : Option Addr) (n c n' c' B : Nat) (t u : TR) (w : World) (hn : t.length = n) (hn' : u.length = n') (hnm : n ≤ maxLen) (hfit : ∀ x ∈ t, x.2.length ≤ maxLen) (hB : B ≤ w.heap.size) (hR : RdT w B A t) (hR' : RdT w B A' u) :
    Calls Try.prog 33 #[.slice A n c, .slice A' n' c', .func (.func 34) #[] #[]] w (BoolEnd w (decide (t = u))) := by
  unfold maxLen at hnm
  have HN := Lib.hid hn; have HN' := Lib.hid hn'; have R := Lib.hid hR; have R' := Lib.hid hR'; have HFIT := Lib.hid hfit
  clear hn hn' hR hR' hfit
  by_cases h1 : n = n'
  · subst h1
    go_enter Try.func33, Try.ntmps33
    go_wp2
    go_loopw [17] (fun i wr => ∃ k : Nat, k ≤ n ∧ i = .int .i64 k ∧ t.take k = u.take k ∧ Below w.heap.size w wr) (fun i _ => n - (intOf i).toNat)
    case atStart => exact ⟨0, Nat.zero_le _, rfl, by simp, Below.refl _ _⟩
    case round =>
      obtain ⟨k, hk, rfl, hall, hbw⟩ := hrel
      have HA := Lib.hid hall; have HBW := Lib.hid hbw; clear hall hbw
      by_cases hlt : k < n
      · have hkt : k < t.length := by rw [HN.out]; exact hlt
        have hku : k < u.length := by rw [HN'.out]; exact hlt
        obtain ⟨a, rfl, hab, hat⟩ := (RdT.below R.out (HBW.out.mono hB)).at_ hkt
        obtain ⟨a', rfl, hab', hat'⟩ := (RdT.below R'.out (HBW.out.mono hB)).at_ hku
        have hl := HFIT.out _ (List.getElem_mem hkt)
        have hnx : t[k] = u[k] → t.take (k + 1) = u.take (k + 1) := fun e => take_eq_succ hkt hku HA.out e
        have hno : t[k] ≠ u[k] → decide (t = u) = false := fun e => decide_eq_false fun h => e (by subst h; rfl)
        generalize t[k] = x at *
        generalize u[k] = y at *
        obtain ⟨xs, xl⟩ := x
        obtain ⟨ys, yl⟩ := y
        have HNX := Lib.hid hnx; have HNO := Lib.hid hno
        clear hnx hno
        obtain ⟨c0, A1, c1, k1, _, r1⟩ := hat
        obtain ⟨c0', A2, c2, k2, _, r2⟩ := hat'
        dsimp only at c0 k1 r1 c0' k2 r2 hl
        obtain ⟨m1, hm1⟩ : ∃ m, xl.length = m := ⟨_, rfl⟩
        obtain ⟨m2, hm2⟩ : ∃ m, yl.length = m := ⟨_, rfl⟩
        rw [hm1] at k1 hl
        rw [hm2] at k2
        have HM1 := Lib.hid hm1; have HM2 := Lib.hid hm2; have R1 := Lib.hid r1; have R2 := Lib.hid r2
        clear hm1 hm2 r1 r2
        have hBW : B ≤ wr.heap.size := Nat.le_trans hB HBW.out.size
        have hba : Below wr.heap.size wr ((wr.alloc (.cells #[strV xs, .slice A1 m1 c1] 66)).alloc (.cells #[strV ys, .slice A2 m2 c2] 66)) := ((Below.refl _ _).alloc (Nat.le_refl _) _).alloc (by simp) _
        have HBA := Lib.hid hba; clear hba
        have hcell : ∀ o, (wr.alloc o).cell? (a'.add (k * 2)) = some (strV ys) := fun o => cell_alc o c0'
        have hcell2 : ∀ o, (wr.alloc o).cell? ⟨(a'.add (k * 2)).block, (a'.add (k * 2)).off + 1, none⟩ = some (.slice A2 m2 c2) := fun o => cell_alc o k2
        have g0 := hcell (.cells #[strV xs, .slice A1 m1 c1] 66)
        have g1 := hcell2 (.cells #[strV xs, .slice A1 m1 c1] 66)
        clear hcell hcell2
        cases hq : decide ((xs, xl) = (ys, yl)) with
        | true =>
          have HQ := Lib.hid (HNX.out (of_decide_eq_true hq))
          have HQ2 := Lib.hid hq
          clear hq
          go_wp2_with fail
          refine (same xs ys A1 A2 m1 c1 m2 c2 B xl yl _ HM1.out HM2.out hl (Nat.le_trans hBW HBA.out.size) (Rd.below R1.out (HBA.out.mono hBW)) (Rd.below R2.out (HBA.out.mono hBW))).mono ?_
          rintro e w2 ⟨rfl, hb2⟩
          rw [HQ2.out]
          have HB2 := Lib.hid (HBW.out.trans ((HBA.out.trans (hb2.mono HBA.out.size)).mono HBW.out.size))
          clear hb2
          go_wp2
          go_roundw
          case rel => exact ⟨k + 1, by omega, by go_num, HQ.out, HB2.out⟩
          case measure => simp [intOf]; omega
        | false =>
          have HQ := Lib.hid (HNO.out (of_decide_eq_false hq))
          have HQ2 := Lib.hid hq
          clear hq
          go_wp2_with fail
          refine (same xs ys A1 A2 m1 c1 m2 c2 B xl yl _ HM1.out HM2.out hl (Nat.le_trans hBW HBA.out.size) (Rd.below R1.out (HBA.out.mono hBW)) (Rd.below R2.out (HBA.out.mono hBW))).mono ?_
          rintro e w2 ⟨rfl, hb2⟩
          rw [HQ2.out]
          have HB2 := Lib.hid (HBW.out.trans ((HBA.out.trans (hb2.mono HBA.out.size)).mono HBW.out.size))
          clear hb2
          go_wp2
          go_ret
          exact ⟨ret_bool HQ.out.symm, HB2.out⟩
      · have HD : Hid (decide (t = u) = true) := Lib.hid (by
          have := HA.out
          rw [List.take_of_length_le (by rw [HN.out]; omega), List.take_of_length_le (by rw [HN'.out]; omega)] at this
          exact decide_eq_true this)
        go_wp2
        go_ret
        exact ⟨ret_bool HD.out.symm, HBW.out⟩
  · have HD : Hid (decide (t = u) = false) := Lib.hid (decide_eq_false (fun e => h1 (by rw [← HN.out, ← HN'.out, e])))
    have hne : ((n : Int) != (n' : Int)) = true := by rw [bne_iff_ne]; omega
    go_enter Try.func33, Try.ntmps33
    go_wp2
    go_ret
    exact ⟨ret_bool HD.out.symm, Below.refl _ _⟩

theorem Same (A A' : Option Addr) (n c n' c' B : Nat) (t u : TR) (w : World) (hn : t.length = n) (hn' : u.length = n') (hnm : n ≤ maxLen) (hfit : ∀ x ∈ t, x.2.length ≤ maxLen) (hB : B ≤ w.heap.size) (hR : RdT w B A t) (hR' : RdT w B A' u) :
    Calls Try.prog 19 #[.slice A n c, .slice A' n' c'] w (BoolEnd w (decide (t = u))) := by
  have H := Lib.hid (EqualF A A' n c n' c' B t u w hn hn' hnm hfit hB hR hR')
  go_enter Try.func19, Try.ntmps19
  go_wp2_with fail
  refine H.out.mono ?_
  rintro e w1 ⟨rfl, hb⟩
  go_wp2
  go_ret
  exact ⟨rfl, hb⟩

end Tr
end Go.Proofs.Ytbiiabfhngdeiaa

namespace Go.Proofs.Ytbiiabfhngdeiaa
open Go.RowKit
set_option linter.unusedVariables false
namespace Tr
open Tx

def SmallL (l : List (List UInt8)) : Prop := l.length ≤ 100000 ∧ ∀ x ∈ l, x.length ≤ 100000
theorem light_small {l : List (List UInt8)} {k : Nat} (h : light l k = true) (hk : k ≤ 1000) : SmallL l := by
  simp only [light, Bool.and_eq_true, decide_eq_true_eq, List.all_eq_true] at h
  exact ⟨by omega, fun x hx => by have := h.2 x hx; omega⟩
theorem small_put {t : TR} {s : List UInt8} {l : List (List UInt8)} {k : Nat} (h : Small t) (hk : t.length ≤ k) (hk2 : k + 1 ≤ 100000) (hs : s.length ≤ 100000) (hl : SmallL l) : Small (put Op.bytesLess t s l) ∧ (put Op.bytesLess t s l).length ≤ k + 1 := by
  have hle : (put Op.bytesLess t s l).length ≤ k + 1 := by rw [put_len]; split <;> omega
  refine ⟨⟨by omega, fun x hx => ?_⟩, hle⟩
  rcases put_mem hx with rfl | hx
  · exact ⟨hs, hl.1, hl.2⟩
  · exact h.all x hx
theorem small_del {t : TR} {s : List UInt8} {k : Nat} (h : Small t) (hk : t.length ≤ k) : Small (del t s) ∧ (del t s).length ≤ k := by
  have hs := del_sub t s
  exact ⟨⟨Nat.le_trans hs.length_le h.len, fun x hx => h.all x (hs.subset hx)⟩, Nat.le_trans hs.length_le hk⟩
theorem small_get {t : TR} {s : List UInt8} (h : Small t) : SmallL ((get t s).getD []) := by
  cases hg : get t s with
  | none => exact ⟨by simp, fun x hx => by simp at hx⟩
  | some l => have := h.all _ (get_mem hg); exact ⟨this.l, this.s⟩

theorem small_names {t u : TR} (h : Small t) (h' : Small u) (hk : t.length ≤ 40) (hk' : u.length ≤ 40) : SmallL (names Op.bytesLess (t.map (·.1) ++ u.map (·.1))) := by
  refine ⟨?_, fun x hx => ?_⟩
  · have := names_len (lt := Op.bytesLess) (t.map (·.1) ++ u.map (·.1))
    rw [List.length_append, List.length_map, List.length_map] at this
    omega
  · rw [names_mem, List.mem_append] at hx
    rcases hx with hx | hx
    · obtain ⟨y, hy, rfl⟩ := List.mem_map.1 hx; exact (h.all y hy).n
    · obtain ⟨y, hy, rfl⟩ := List.mem_map.1 hx; exact (h'.all y hy).n

section
variable {A A' : Option Addr} {n c m c' B : Nat} {t u P : TR} {s : List UInt8} {l L : List (List UInt8)} {w : World} {b : Bool} {k : Nat}
/-- How a call ends that makes the tree P of k files. -/
def TEnd (w : World) (P : TR) (k : Nat) (e : Ending) (w' : World) : Prop := ∃ A c, e = .returned (.slice A k c) ∧ k ≤ c ∧ RdT w' w'.heap.size A P ∧ Below w.heap.size w w'
def LEnd (w : World) (L : List (List UInt8)) (k : Nat) (e : Ending) (w' : World) : Prop := ∃ A c, e = .returned (.slice A k c) ∧ k ≤ c ∧ RdS w' w'.heap.size A L ∧ Below w.heap.size w w'
def GEnd (w : World) (L : List (List UInt8)) (k : Nat) (b : Bool) (e : Ending) (w' : World) : Prop := ∃ A c, e = .returned (.tuple #[.slice A k c, .bool b]) ∧ k ≤ c ∧ RdS w' w'.heap.size A L ∧ Below w.heap.size w w'
theorem PutC (hn : t.length = n) (hs : Small t) (hm : l.length = m) (hl : SmallL l) (hR : RdT w w.heap.size A t) (hR' : RdS w w.heap.size A' l) (hP : put Op.bytesLess t s l = P) (hk : P.length = k) :
    Calls Try.prog 93 #[.slice A n c, strV s, .slice A' m c'] w (TEnd w P k) := by
  subst hP hk
  exact Put s A A' c n _ m c' t l w hn hs.wide hm (by have := hl.1; omega) (Nat.le_refl _) hR hR'
theorem DelC (hn : t.length = n) (hs : Small t) (hR : RdT w w.heap.size A t) (hP : del t s = P) (hk : P.length = k) : Calls Try.prog 94 #[.slice A n c, strV s] w (TEnd w P k) := by
  subst hP hk
  exact Del s A c n _ t w hn hs.wide (Nat.le_refl _) hR
theorem GetC (hn : t.length = n) (hs : Small t) (hR : RdT w w.heap.size A t) (hL : (get t s).getD [] = L) (hb : (get t s).isSome = b) (hk : L.length = k) : Calls Try.prog 92 #[.slice A n c, strV s] w (GEnd w L k b) := by
  subst hL hb hk
  exact Get s A c n _ t w hn hs.wide (Nat.le_refl _) hR
theorem MayC (hn : t.length = n) (hs : Small t) (hR : RdT w w.heap.size A t) (hb : mayT t = b) : Calls Try.prog 17 #[.slice A n c] w (BoolEnd w b) := by
  subst hb
  exact May A c n _ t w hn (small_fit hs) (Nat.le_refl _) hR
theorem SameC (hn : t.length = n) (hm : u.length = m) (hs : Small t) (hR : RdT w w.heap.size A t) (hR' : RdT w w.heap.size A' u) (hb : decide (t = u) = b) : Calls Try.prog 19 #[.slice A n c, .slice A' m c'] w (BoolEnd w b) := by
  subst hb
  exact Same A A' n c m c' _ t u w hn hm (by rw [← hn]; exact Nat.le_trans hs.len (by decide)) (fun x hx => (small_fit hs x hx).2) (Nat.le_refl _) hR hR'
theorem SameSC (hn : l.length = n) (hm : L.length = m) (hn5 : n ≤ 100000) (hR : RdS w w.heap.size A l) (hR' : RdS w w.heap.size A' L) (hb : decide (l = L) = b) : Calls Try.prog 71 #[.slice A n c, .slice A' m c'] w (BoolEnd w b) := by
  subst hb
  refine (Tx.Same A A' c c' n m _ l L w hn hm (Nat.le_trans hn5 (by decide)) hR hR').mono ?_
  rintro e w' ⟨rfl, d, rfl⟩
  exact ⟨rfl, below_drewN (Below.refl _ _) d⟩
end

theorem RdT.mv {w w' : World} {A : Option Addr} {t : TR} (h : RdT w w.heap.size A t) (hb : Below w.heap.size w w') : RdT w' w'.heap.size A t := (h.below hb).up hb.size
theorem rdS_mv {w w' : World} {A : Option Addr} {l : List (List UInt8)} (h : RdS w w.heap.size A l) (hb : Below w.heap.size w w') : RdS w' w'.heap.size A l := (Rd.below h hb).up hb.size
theorem below_mv {w0 w w' : World} (h : Below w0.heap.size w0 w) (hb : Below w.heap.size w w') : Below w0.heap.size w0 w' := h.trans (hb.mono h.size)

end Tr
end Go.Proofs.Ytbiiabfhngdeiaa
