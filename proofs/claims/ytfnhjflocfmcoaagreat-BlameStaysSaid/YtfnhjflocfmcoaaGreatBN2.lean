/-
  Words and contracts, joined: TrDel GU PrApply GV PsGrow FlRef QRange FlKeep TgMem BmPlain BmMem BmRefP BmRef BmRefOne PnLeaf FlRef2 FlSteps SwRef PsRef.
-/
import Derived.Deep.AppendLies
import Derived.Deep.RegionHeld3
import Derived.BigQuiet
import Derived.Deep.Cut
import Derived.Laws.EntriesVeiled
import Derived.RangeFuncNested
import Derived.RangeFuncCalls
import Derived.RangeFuncLeaves
import Derived.RangeFuncBox
import Derived.Deep.Quiet
import Derived.StillTail
import Derived.Deep.RegionHeld
import Derived.OrdersIn
import Derived.TacticsIn
import Derived.Laws.StructEq
import Derived.Test.YtfnhjflocfmcoaaGreatBN1
set_option maxRecDepth 100000
namespace Go.Proofs.YtfnhjflocfmcoaaGreat
open Go.RowKit
set_option linter.unusedVariables false
namespace Tr
open Tx

/-- How Delete ends: in place. -/
def DeleteEnd (w : World) (base g n i : Nat) (xs : List Value) (e : Ending) (w' : World) : Prop :=
  e = .returned (.slice (some ⟨g, 0, none⟩) (i + (n - (i + 1))) n) ∧ w'.ownsRow base 51 2 (.slice (some ⟨g, 0, none⟩) (i + (n - (i + 1))) n) (i + (n - (i + 1))) (xs.take (i * 2) ++ xs.drop ((i + 1) * 2)) ∧ w.grownBy w' (some g)

theorem gr_two {W W1 W2 : World} {row : Option Nat} (h1 : W.grownBy W1 row) (h2 : W1.grownBy W2 row) : W.grownBy W2 row :=
  ⟨h2.os.trans h1.os, h2.tape.trans h1.tape, h2.output.trans h1.output, Nat.le_trans h1.size h2.size, fun i hi hne => (h2.block i (Nat.lt_of_lt_of_le hi h1.size) hne).trans (h1.block i hi hne)⟩
theorem file_zero_one (j : Nat) : Value.oneCell' ((Value.agg #[.string ⟨#[]⟩, .slice none 0 0]).cells[j % (Value.agg #[.string ⟨#[]⟩, .slice none 0 0]).cells.size]!) = true := by
  rw [show (Value.agg #[.string ⟨#[]⟩, .slice none 0 0]).cells.size = 2 from rfl]
  rcases Nat.mod_two_eq_zero_or_one j with e | e <;> rw [e] <;> rfl
theorem delete_cells {L xs X : List Value} {n i m : Nat} (hm : m = i + (n - (i + 1))) (hX : X = xs.drop ((i + 1) * 2)) (hx : xs.length = n * 2) (hi : i < n) {ys : List Value} (hL : L = splice xs (i * 2) X) (hy : ys.take (m * 2) = L.take (m * 2)) : ys.take (m * 2) = xs.take (i * 2) ++ xs.drop ((i + 1) * 2) := by
  rw [hy, hL]
  unfold splice
  rw [← List.append_assoc, List.take_append_of_le_length, List.take_of_length_le, hX]
  · rw [List.length_append, List.length_take, hX, List.length_drop, hx]; omega
  · rw [List.length_append, List.length_take, hX, List.length_drop, hx]; omega

set_option maxRecDepth 100000 in
set_option maxHeartbeats 4000000 in
theorem Delete (g n i base : Nat) (xs : List Value) (w : World) (hn : n ≤ 3518437208800) (hi : i < n) (hrow : w.ownsRow base 51 2 (.slice (some ⟨g, 0, none⟩) n n) n xs) (h1x : ∀ u ∈ xs, u.oneCell' = true) :
    Calls Tryz.prog 128 #[.slice (some ⟨g, 0, none⟩) n n, .int .i64 (i : Int), .int .i64 ((i : Int) + 1)] w (DeleteEnd w base g n i xs) := by
  obtain ⟨i0, hi0, hz0, hz1, hz2⟩ := info_parts info_file
  have hxl := hrow.1
  obtain ⟨X, hX⟩ : ∃ X, X = xs.drop ((i + 1) * 2) := ⟨_, rfl⟩
  have hXl : X.length = (n - (i + 1)) * 2 := by rw [hX, List.length_drop, hxl]; omega
  have hX1 : ∀ u ∈ X, u.oneCell' = true := fun u hu => h1x u (by rw [hX] at hu; exact List.mem_of_mem_drop hu)
  have hrowd : w.drew.ownsRow base 51 2 (.slice (some ⟨g, 0, none⟩) n n) n xs := hrow
  have hsrc : ∀ j u, X[j]? = some u → w.drew.cell? ((⟨g, (i + 1) * 2, none⟩ : Addr).add j) = some u := fun j u hu => by
    rw [hX, List.getElem?_drop] at hu
    have e1 : (⟨g, (i + 1) * 2, none⟩ : Addr).add j = (⟨g, 0, none⟩ : Addr).add ((i + 1) * 2 + j) := by rw [Addr.add_lit, Addr.add_lit, Nat.zero_add]
    rw [e1]
    exact hrow.cells rfl _ u hu
  have hsrc2 : n = i + 1 → ∀ j u, X[j]? = some u → w.drew.cell? ((⟨g, 0, none⟩ : Addr).add j) = some u := fun e j u hu => by
    have : X = [] := List.eq_nil_of_length_eq_zero (by rw [hXl, e]; omega)
    rw [this] at hu; simp at hu
  obtain ⟨L, hL⟩ : ∃ L, L = splice xs (i * 2) X := ⟨_, rfl⟩
  have hdc := fun ys (h : ys.take ((i + (n - (i + 1))) * 2) = L.take ((i + (n - (i + 1))) * 2)) => delete_cells (ys := ys) rfl hX hxl hi hL h
  have HD := Lib.hid hdc; have HX1 := Lib.hid hX1; have HXL := Lib.hid hXl; have HROW := Lib.hid hrowd; have HS := Lib.hid hsrc; have HS2 := Lib.hid hsrc2; have HL := Lib.hid hL; have HZ0 := Lib.hid hz0; have HZ1 := Lib.hid hz1
  clear hdc hX1 hXl hrow hrowd hsrc hsrc2 hL hX h1x hxl hz0 hz1 hz2
  have hw1 : IntKind.i64.wrap ((i : Int) + 1) = (i : Int) + 1 := IntWalk.i64_in _ (by omega)
  have hb1 : (0 : Int) ≤ (i : Int) + 1 := by omega
  have hb2 : (i : Int) + 1 ≤ (n : Int) := by omega
  have hb3 : (i : Int) ≤ (i : Int) + 1 := by omega
  have htn : ((i : Int) + 1).toNat = i + 1 := by omega
  have hni : ¬ (i : Int) = (i : Int) + 1 := by omega
  have hin : i ≤ n := by omega
  have hki : i + (n - (i + 1)) ≤ n := by omega
  have hko : n - (i + (n - (i + 1))) = 1 := by omega
  have hne : ¬ n = i + (n - (i + 1)) := by omega
  rcases Classical.em (n = i + 1) with hc | hc
  · have e0 : n - (i + 1) = 0 := by omega
    rw [e0, Nat.add_zero] at HD hki hko hne
    rw [e0] at HXL
    have HE : Hid (∀ e w', DeleteEnd w base g n i xs e w' = (e = .returned (.slice (some ⟨g, 0, none⟩) i n) ∧ w'.ownsRow base 51 2 (.slice (some ⟨g, 0, none⟩) i n) i (xs.take (i * 2) ++ xs.drop ((i + 1) * 2)) ∧ w.grownBy w' (some g))) := Lib.hid (fun e w' => by unfold DeleteEnd; rw [e0, Nat.add_zero])
    have HS3 := Lib.hid (HS2.out hc)
    clear e0
    subst hc
    go_enter Tryz.func128, Tryz.ntmps128
    go_wp2_with fail
    go_region_law (refine step_append_own_room rfl _ _ _ rfl 51 i0 base 2 g (i + 1) (i + 1) i 0 0 ⟨g, 0, none⟩ xs X Tryz.underlying43 hi0 HZ1.out (by simp [Act.eval, Act.put]) (by simp [Act.eval, Act.put]) HROW.out HXL.out HS3.out HX1.out hin (Nat.le_refl _) ?_; intro W1 ho1 hg1; have HO1 := Lib.hid ho1; have HG1 := Lib.hid hg1; clear ho1 hg1)
    rw [← HL.out] at HO1
    clear hw1 hb1 hb2 hb3 htn
    go_wp2_with (refine wpList_clear_own (o := ⟨none, _, _, _, _, _⟩) rfl _ _ rfl 51 i0 _ base 2 g (i * 2) (i + 1) (i + 1) 1 _ L Tryz.underlying43 hi0 HZ0.out rfl file_zero_one (by omega) rfl HO1.out (by omega) ?_; intro W2 ys ho2 hy2 hg2; have HO2 := Lib.hid ho2; have HY2 := Lib.hid hy2; have HG2 := Lib.hid hg2; clear ho2 hy2 hg2)
    go_ret
    rw [HE.out]
    refine ⟨rfl, ?_, gr_two (gr_of_drewN (d := 1) HG1.out) HG2.out⟩
    rw [← HD.out ys HY2.out]
    exact own_less HO2.out (by omega)
  · go_enter Tryz.func128, Tryz.ntmps128
    go_wp2_with fail
    go_region_law (refine step_append_own_room rfl _ _ _ rfl 51 i0 base 2 g n n i (n - (i + 1)) (n - (i + 1)) ⟨g, (i + 1) * 2, none⟩ xs X Tryz.underlying43 hi0 HZ1.out (by simp [Act.eval, Act.put]) (by simp [Act.eval, Act.put]) HROW.out HXL.out HS.out HX1.out hki (Nat.le_refl _) ?_; intro W1 ho1 hg1; have HO1 := Lib.hid ho1; have HG1 := Lib.hid hg1; clear ho1 hg1)
    rw [← HL.out] at HO1
    clear hw1 hb1 hb2 hb3 htn
    go_wp2_with (refine wpList_clear_own (o := ⟨none, _, _, _, _, _⟩) rfl _ _ rfl 51 i0 _ base 2 g ((i + (n - (i + 1))) * 2) n n _ _ L Tryz.underlying43 hi0 HZ0.out rfl file_zero_one (by omega) rfl HO1.out (by omega) ?_; intro W2 ys ho2 hy2 hg2; have HO2 := Lib.hid ho2; have HY2 := Lib.hid hy2; have HG2 := Lib.hid hg2; clear ho2 hy2 hg2)
    go_ret
    refine ⟨rfl, ?_, gr_two (gr_of_drewN (d := 1) HG1.out) HG2.out⟩
    rw [← HD.out ys HY2.out]
    exact own_less HO2.out (by omega)

end Tr
end Go.Proofs.YtfnhjflocfmcoaaGreat

set_option maxRecDepth 100000
namespace Go.Proofs.YtfnhjflocfmcoaaGreat
open Go.RowKit
set_option linter.unusedVariables false
namespace Tr
open Tx

/-- A file in the place of another one. -/
theorem put_upd {w w4 : World} {g n k h m : Nat} {t : TR} {xs : List Value} {s : List UInt8} {l : List (List UInt8)} (hrow : w4.ownsRow w.heap.size 51 2 (.slice (some ⟨g, 0, none⟩) n n) n xs) (hF : FCells w4 (some g) t xs) (hn : t.length = n) (hi : ixF (isN s) t = some k)
    (hm : l.length = m) (hr : RdX w4 (some g) (some ⟨h, 0, none⟩) l) (hb : Below w.heap.size w w4) :
    TreeEnd w (upd t s l) (.returned (.slice (some ⟨g, 0, none⟩) n n)) ((w4.setCell ⟨g, k * 2, none⟩ (strV s)).setCell ⟨g, k * 2 + 1, none⟩ (.slice (some ⟨h, 0, none⟩) m m)) := by
  subst hm
  obtain ⟨hk, _⟩ := ixF_some hi
  have hu := upd_set (l := l) hi
  obtain ⟨⟨xs', r1, r2⟩, r3⟩ := store_file (k := k) (t2 := upd t s l) (x := (s, l)) (A := some ⟨h, 0, none⟩) (c := l.length) hrow hF (fun j y hne hy => by
      rw [hu, List.getElem?_set_ne (fun e => hne e.symm)] at hy
      exact hy) (fun y hy => by
      rw [hu, List.getElem?_set_self hk] at hy
      injection hy with hy
      exact hy.symm) (by omega) (Nat.le_refl _) hr
  have hlen : (upd t s l).length = n := by rw [upd_len]; exact hn
  refine treeEnd_own (base := w.heap.size) ⟨xs', by rw [hlen]; exact r1, r2⟩ ?_
  have hg : w.heap.size ≤ g := (hrow.lt g rfl).1
  exact (hb.setCell (p := ⟨g, k * 2, none⟩) hg _).setCell (p := ⟨g, k * 2 + 1, none⟩) hg _

/-- One file more. -/
theorem put_ins {w w4 W W' : World} {g n p h m : Nat} {t : TR} {xs : List Value} {s : List UInt8} {l : List (List UInt8)} {e : Ending} (hxl : xs.length = n * 2) (hF : FCells w4 (some g) t xs) (hn : t.length = n) (hp : (ixF (gtN s) t).getD n = p)
    (hm : l.length = m) (hr : RdX w4 (some g) (some ⟨h, 0, none⟩) l) (hb : Below w.heap.size w w4) (hbW : Below w4.heap.size w4 W) (he : InsEnd W n p xs [strV s, .slice (some ⟨h, 0, none⟩) m m] e W') :
    TreeEnd w (ins Op.bytesLess t s l) e W' := by
  obtain ⟨g', cap, rfl, hown, hb2⟩ := he
  have hpl : p ≤ t.length := by rw [← hp, ← hn]; exact place_le
  have hF2 := (hF.ins (s := s) (by rw [hn]; exact hxl) hpl hm (Nat.le_refl _) hr)
  have hi : ins Op.bytesLess t s l = t.take p ++ (s, l) :: t.drop p := by rw [ins_ix, ← hn] at *; rw [hp]
  have hsz : w.heap.size ≤ W.heap.size := Nat.le_trans hb.size hbW.size
  have hF3 := hF2.turn (W' := W') (row' := some g') (hbW.trans (hb2.mono hbW.size)) (fun g0 e => by injection e with e; subst e; exact Nat.le_trans hbW.size (hown.lt g' rfl).1)
  rw [← hi] at hF3
  have hlen : (ins Op.bytesLess t s l).length = n + 1 := by rw [ins_len, hn]
  exact treeEnd_own (base := W.heap.size) ⟨_, by rw [hlen]; exact hown, hF3⟩ ((hb.trans (hbW.mono hb.size)).trans (hb2.mono hsz))

set_option maxRecDepth 100000 in
set_option maxHeartbeats 4000000 in
theorem Put (s : List UInt8) (A A' : Option Addr) (c n B m c' : Nat) (t : TR) (l : List (List UInt8)) (w : World) (hn : t.length = n) (hs : Wide t) (hm : l.length = m) (hm5 : m ≤ 8796093022208) (hB : B ≤ w.heap.size) (hR : RdT w B A t) (hR' : RdS w B A' l) :
    Calls Tryz.prog 104 #[.slice A n c, strV s, .slice A' m c'] w (TreeEnd w (put Op.bytesLess t s l)) := by
  have hln : n ≤ 3518437208800 := by rw [← hn]; exact hs.len
  have hI := fun w hB hR => find s A c n B t w hn hln hB hR
  have hP := fun w hB hR => place s A c n B t w hn hln hB hR
  have hG : ixF (isN s) t = none → get t s = none := get_ix_none
  have hG2 : ∀ k, ixF (isN s) t = some k → ∃ x, get t s = some x := fun k h => ⟨_, (get_ix h).2.2.1⟩
  have HN := Lib.hid hn; have HM := Lib.hid hm; have HS := Lib.hid hs; have R := Lib.hid hR; have R' := Lib.hid hR'
  have HI := Lib.hid hI; have HP := Lib.hid hP; have HG := Lib.hid hG; have HG2 := Lib.hid hG2
  clear hn hm hs hR hR' hI hP hG hG2
  go_enter Tryz.func104, Tryz.ntmps104
  go_wp2_with fail
  refine (againT A c n B t w HN.out HS.out hB R.out).mono ?_
  rintro e w1 ⟨rfl, ⟨xs, hrow, hF⟩, hb1⟩
  have HB1 := Lib.hid hb1; have HRW := Lib.hid hrow; have HF := Lib.hid hF
  clear hb1 hrow hF
  go_wp2_with fail
  refine (file s A' c' m B l w1 HM.out hm5 (Nat.le_trans hB HB1.out.size) (Rd.below R'.out (HB1.out.mono hB))).mono ?_
  rintro e w2 ⟨h, rfl, hr2, hb2⟩
  have hrow2 := own_gr HRW.out (below_gr_row hb2)
  have hF2 := HF.out.gr (gr_none (below_gr_row hb2))
  have hgw1 : w.heap.size < w1.heap.size := (HRW.out.lt _ rfl).2
  have hx2 := RdX.own hr2 hgw1
  have HB2 := Lib.hid (HB1.out.trans (hb2.mono HB1.out.size))
  have HRW2 := Lib.hid hrow2; have HF2 := Lib.hid hF2; have HX2 := Lib.hid hx2
  clear hr2 hb2 hrow2 hF2 hx2 HRW HF hgw1 HB1
  obtain ⟨g, hg⟩ : ∃ g, w.heap.size = g := ⟨_, rfl⟩
  have HP1 := Lib.hid (fun (w4 : World) (k : Nat) (hi : ixF (isN s) t = some k) hr ho hF hb => put_upd (w := w) (w4 := w4) (xs := xs) (s := s) (t := t) (n := n) (g := g) (k := k) (h := h) (m := m) (l := l) hr hF HN.out hi HM.out ho hb)
  have HP2 := Lib.hid (fun (w4 W W' : World) (p : Nat) (e : Ending) (hp : (ixF (gtN s) t).getD n = p) hF ho hb hbW he => put_ins (w := w) (w4 := w4) (W := W) (W' := W') (xs := xs) (s := s) (t := t) (n := n) (g := g) (p := p) (h := h) (m := m) (l := l) (e := e) HRW2.out.1 hF HN.out hp HM.out ho hb hbW he)
  have HGB : Hid (∀ W, Below g w W = Below w.heap.size w W) := Lib.hid (fun W => by rw [hg])
  rw [hg] at HB2 HRW2 HF2 HX2 hB ⊢
  have HGS := Lib.hid hg; clear hg
  obtain ⟨o, ho⟩ : ∃ o, ixF (isN s) t = o := ⟨_, rfl⟩
  rw [ho] at HI HG HG2
  have HW2 : Hid (g < w2.heap.size) := Lib.hid (HRW2.out.lt _ rfl).2
  have hbl := Blk.new w2 51 #[strV s, .slice (some ⟨h, 0, none⟩) m m]
  have hb3 : Below w2.heap.size w2 (w2.alloc (.cells #[strV s, .slice (some ⟨h, 0, none⟩) m m] 51)) := (Below.refl _ _).alloc (Nat.le_refl _) _
  have HBL := Lib.hid hbl; have HB3 := Lib.hid hb3
  clear hbl hb3
  cases o with
  | some k =>
    have HO := Lib.hid ho
    have hkn : k < n := by have := (ixF_some ho).1; rw [HN.out] at this; exact this
    clear ho
    go_wp2_with fail
    refine (HI.out (w2.alloc (.cells #[strV s, .slice (some ⟨h, 0, none⟩) m m] 51)) (Nat.le_trans hB (Nat.le_trans (Nat.le_of_lt HW2.out) HB3.out.size)) (R.out.below ((HB2.out.trans (HB3.out.mono (Nat.le_of_lt HW2.out))).mono hB))).mono ?_
    rintro e w4 ⟨rfl, hb4⟩
    simp only [ixV]
    have hg4 : w2.grownBy w4 none := (below_gr_row HB3.out).trans (below_gr_row hb4)
    have hbl4 := HBL.out.below hb4 HBL.out.lt
    have x0 : w4.cell? ⟨w2.heap.size, 0, none⟩ = some (strV s) := hbl4.cell 0 rfl
    have x1 : w4.cell? ⟨w2.heap.size, 1, none⟩ = some (.slice (some ⟨h, 0, none⟩) m m) := hbl4.cell 1 rfl
    obtain ⟨v0, v1, y0, y1, f0, f1⟩ := file_cells (own_gr HRW2.out hg4) hkn
    have he := HP1.out w4 k HO.out (by rw [HGS.out]; exact own_gr HRW2.out hg4) (HX2.out.gr (gr_none hg4)) (HF2.out.gr (gr_none hg4)) (by rw [← HGB.out]; exact HB2.out.grown hg4 (Nat.le_of_lt HW2.out) (fun k e => by cases e))
    have HE := Lib.hid he
    have hput : put Op.bytesLess t s l = upd t s l := by
      obtain ⟨y, hy⟩ := HG2.out k rfl
      unfold put; rw [hy]; rfl
    have HPUT := Lib.hid hput
    clear he hbl4 hg4 hb4 hput
    go_wp2
    go_ret
    rw [HPUT.out]
    exact HE.out
  | none =>
    clear ho
    go_wp2_with fail
    refine (HI.out (w2.alloc (.cells #[strV s, .slice (some ⟨h, 0, none⟩) m m] 51)) (Nat.le_trans hB (Nat.le_trans (Nat.le_of_lt HW2.out) HB3.out.size)) (R.out.below ((HB2.out.trans (HB3.out.mono (Nat.le_of_lt HW2.out))).mono hB))).mono ?_
    rintro e w4 ⟨rfl, hb4⟩
    simp only [ixV]
    have hg4 : w2.grownBy w4 none := (below_gr_row HB3.out).trans (below_gr_row hb4)
    have hbl4 := HBL.out.below hb4 HBL.out.lt
    obtain ⟨fb, hfb⟩ : ∃ fb, w2.heap.size = fb := ⟨_, rfl⟩
    rw [hfb] at hbl4 ⊢
    have x0 : w4.cell? ⟨fb, 0, none⟩ = some (strV s) := hbl4.cell 0 rfl
    have x1 : w4.cell? ⟨fb, 1, none⟩ = some (.slice (some ⟨h, 0, none⟩) m m) := hbl4.cell 1 rfl
    have hrow4 := own_gr HRW2.out hg4
    have hF4 := HF2.out.gr (gr_none hg4)
    have hx4 := HX2.out.gr (gr_none hg4)
    have hbb4 : Below g w w4 := HB2.out.grown hg4 (Nat.le_of_lt HW2.out) (fun k e => by cases e)
    have hput : put Op.bytesLess t s l = ins Op.bytesLess t s l := by unfold put; rw [HG.out (by trivial)]; rfl
    have hg4s : g ≤ w4.heap.size := Nat.le_of_lt (hrow4.lt g rfl).2
    have hone := hF4.one_cell (by rw [HN.out]; exact hrow4.1)
    obtain ⟨p, hp⟩ : ∃ p, (ixF (gtN s) t).getD n = p := ⟨_, rfl⟩
    have hpn : p ≤ n := by rw [← hp, ← HN.out]; exact place_le
    have hEND := fun (W W' : World) (e : Ending) (hbW : Below w4.heap.size w4 W) (he : InsEnd W n p xs [strV s, .slice (some ⟨h, 0, none⟩) m m] e W') => HP2.out w4 W W' p e hp hF4 hx4 (by rw [← HGB.out]; exact hbb4) hbW he
    rw [hp] at HP
    have hPL : ∀ W, Below w4.heap.size w4 W → Calls Tryz.prog 127 #[.slice A n c, strV s] W (IntEnd W (p : Int)) := fun W hb => HP.out W (Nat.le_trans hB (Nat.le_trans hg4s hb.size)) (R.out.below ((hbb4.trans (hb.mono hg4s)).mono hB))
    have hINS : ∀ W vb, Below w4.heap.size w4 W → Blk W vb 51 #[strV s, .slice (some ⟨h, 0, none⟩) m m] → Calls Tryz.prog 126 #[.slice (some ⟨g, 0, none⟩) n n, .int .i64 (p : Int), .slice (some ⟨vb, 0, none⟩) 1 1] W (InsEnd W n p xs [strV s, .slice (some ⟨h, 0, none⟩) m m]) := fun W vb hb hv =>
      Insert g n p g vb xs _ W hln hpn (own_gr hrow4 (below_gr_row hb)) (World.news_of_block (cs := #[strV s, .slice (some ⟨h, 0, none⟩) m m]) (t := 51) (fr := (0, 0)) hv) rfl hone (by simp [Value.oneCell']) hv.lt
    have HEND := Lib.hid hEND; have HPL := Lib.hid hPL; have HINS := Lib.hid hINS; have HPUT := Lib.hid hput
    clear hEND hPL hINS hput hg4s hone hbb4 hx4 hF4 hrow4 hbl4 hg4 hb4 hfb HP1 HP2 HGB HI HG HG2 HBL HB3 HRW2 HF2 HX2 HB2
    have HX : Hid (∀ W, Below w4.heap.size w4 W → W.cell? ⟨fb, 0, none⟩ = some (strV s) ∧ W.cell? ⟨fb, 1, none⟩ = some (.slice (some ⟨h, 0, none⟩) m m)) := Lib.hid (fun W hb => ⟨(hb.cell (p := ⟨fb, 0, none⟩) (World.block_lt_of_cell? w4 _ x0)).trans x0, (hb.cell (p := ⟨fb, 1, none⟩) (World.block_lt_of_cell? w4 _ x1)).trans x1⟩)
    have HB0 : Hid (Below w4.heap.size w4 w4.drew) := Lib.hid (below_drewN (Below.refl _ w4) 1)
    have HBA : Hid (Below w4.heap.size w4 (w4.alloc (.cells #[strV s, .slice (some ⟨h, 0, none⟩) m m] 51)).drew) := Lib.hid (below_drewN ((Below.refl _ w4).alloc (Nat.le_refl _) _) 1)
    have HVA : Hid (Blk (w4.alloc (.cells #[strV s, .slice (some ⟨h, 0, none⟩) m m] 51)).drew w4.heap.size 51 #[strV s, .slice (some ⟨h, 0, none⟩) m m]) := Lib.hid (Blk.new w4 _ _)
    have hS0 := HX.out w4.drew HB0.out
    have hSA := HX.out (w4.alloc (.cells #[strV s, .slice (some ⟨h, 0, none⟩) m m] 51)).drew HBA.out
    have hSB := HX.out (w4.alloc (.cells #[strV s, .slice (some ⟨h, 0, none⟩) m m] 51)) ((Below.refl _ w4).alloc (Nat.le_refl _) _)
    go_wp2_with fail
    go_region_held3 (fun W => W.cell? ⟨fb, 0, none⟩ = some (strV s) ∧ W.cell? ⟨fb, 1, none⟩ = some (.slice (some ⟨h, 0, none⟩) m m))
      (first
        | (exact hS0)
        | (exact hSA)
        | (exact hSB)
        | (exact hS1)
        | (exact hS2)
        | (exact hS3)
        | go_keep)
      (first
        | (go_at_call 127; (with_reducible refine (HPL.out w4.drew HB0.out).mono ?_); rintro e w5 ⟨rfl, hb⟩; have hbc := HB0.out.trans (hb.mono HB0.out.size); have hS1 := HX.out w5 hbc; have hba := hbc.alloc hbc.size (.cells #[strV s, .slice (some ⟨h, 0, none⟩) m m] 51); have hS3 := HX.out (w5.alloc (.cells #[strV s, .slice (some ⟨h, 0, none⟩) m m] 51)) hba; have HU5 := Lib.hid hba; have HV5 := Lib.hid (Blk.new w5 51 #[strV s, .slice (some ⟨h, 0, none⟩) m m]); clear hb hbc hba)
        | (go_at_call 127; (with_reducible refine (HPL.out (w4.alloc (.cells #[strV s, .slice (some ⟨h, 0, none⟩) m m] 51)).drew HBA.out).mono ?_); rintro e w5 ⟨rfl, hb⟩; have hbc := HBA.out.trans (hb.mono HBA.out.size); have hS1 := HX.out w5 hbc; have HU5 := Lib.hid hbc; have HV5 := Lib.hid (HVA.out.below hb HVA.out.lt); clear hb hbc)
        | (go_at_call 126; (with_reducible refine (HINS.out (w5.alloc (.cells #[strV s, .slice (some ⟨h, 0, none⟩) m m] 51)) w5.heap.size HU5.out HV5.out).mono ?_); rintro e w6 ⟨g', cap, rfl, ho, hb6⟩; have HE6 := Lib.hid (HEND.out (w5.alloc (.cells #[strV s, .slice (some ⟨h, 0, none⟩) m m] 51)) w6 _ HU5.out ⟨g', cap, rfl, ho, hb6⟩); have hS2 := HX.out w6 (HU5.out.trans (hb6.mono HU5.out.size)); clear ho hb6)
        | (go_at_call 126; (with_reducible refine (HINS.out w5 w4.heap.size HU5.out HV5.out).mono ?_); rintro e w6 ⟨g', cap, rfl, ho, hb6⟩; have HE6 := Lib.hid (HEND.out w5 w6 _ HU5.out ⟨g', cap, rfl, ho, hb6⟩); have hS2 := HX.out w6 (HU5.out.trans (hb6.mono HU5.out.size)); clear ho hb6))
    all_goals
      go_wp2
      go_ret
      rw [HPUT.out]
      exact HE6.out

end Tr
end Go.Proofs.YtfnhjflocfmcoaaGreat

namespace Go.Proofs.YtfnhjflocfmcoaaGreat
open Go.RowKit
set_option linter.unusedVariables false
namespace Tr
open Tx

theorem del_end {w w4 w' : World} {g n k : Nat} {t : TR} {xs : List Value} {s : List UInt8} {e : Ending} (hrow : w4.ownsRow w.heap.size 51 2 (.slice (some ⟨g, 0, none⟩) n n) n xs) (hF : FCells w4 (some g) t xs) (hn : t.length = n) (hi : ixF (isN s) t = some k) (hb : Below w.heap.size w w4)
    (he : DeleteEnd w4 w.heap.size g n k xs e w') : TreeEnd w (del t s) e w' := by
  obtain ⟨rfl, ho, hg⟩ := he
  obtain ⟨hk, h1, _, h3⟩ := get_ix hi
  have hd := del_at hk h1 h3
  have hlen : (del t s).length = k + (n - (k + 1)) := by rw [hd, List.length_append, List.length_take, List.length_drop]; omega
  have hF2 := (hF.gr hg).del (p := k) (by rw [hn]; exact hrow.1) (Nat.le_of_lt hk)
  rw [← hd] at hF2
  refine treeEnd_own (base := w.heap.size) ⟨_, by rw [hlen]; exact ho, hF2⟩ (hb.grown hg (Nat.le_trans hb.size (Nat.le_refl _)) fun j e => by injection e with e; subst e; exact (hrow.lt _ rfl).1)

set_option maxHeartbeats 1000000 in
theorem Del (s : List UInt8) (A : Option Addr) (c n B : Nat) (t : TR) (w : World) (hn : t.length = n) (hs : Wide t) (hB : B ≤ w.heap.size) (hR : RdT w B A t) :
    Calls Tryz.prog 105 #[.slice A n c, strV s] w (TreeEnd w (del t s)) := by
  have hln : n ≤ 3518437208800 := by rw [← hn]; exact hs.len
  have hI := fun w hB hR => find s A c n B t w hn hln hB hR
  have HN := Lib.hid hn; have HS := Lib.hid hs; have R := Lib.hid hR
  obtain ⟨o, ho⟩ : ∃ o, ixF (isN s) t = o := ⟨_, rfl⟩
  rw [ho] at hI
  have HI := Lib.hid hI
  clear hn hs hR hI
  go_enter Tryz.func105, Tryz.ntmps105
  go_wp2_with fail
  refine (againT A c n B t w HN.out HS.out hB R.out).mono ?_
  rintro e w1 ⟨rfl, ⟨xs, hrow, hF⟩, hb1⟩
  have HB1 := Lib.hid hb1; have HRW := Lib.hid hrow; have HF := Lib.hid hF
  clear hb1 hrow hF
  have hgw1 : w.heap.size < w1.heap.size := (HRW.out.lt _ rfl).2
  have hone := HF.out.one_cell (by rw [HN.out]; exact HRW.out.1)
  cases o with
  | none =>
    have hd := del_no (get_ix_none ho)
    have he : TreeEnd w (del t s) (.returned (.slice (some ⟨w.heap.size, 0, none⟩) n n)) w1 := by
      rw [hd]
      exact treeEnd_own (base := w.heap.size) ⟨xs, by rw [HN.out]; exact HRW.out, HF.out⟩ HB1.out
    have hee : ∀ w2, Below w1.heap.size w1 w2 → TreeEnd w (del t s) (.returned (.slice (some ⟨w.heap.size, 0, none⟩) n n)) w2 := fun w2 hb2 => by
      obtain ⟨A, c, e1, e2, e3, e4⟩ := he
      exact ⟨A, c, e1, e2, (e3.below hb2).up hb2.size, e4.trans (hb2.mono e4.size)⟩
    have HEE := Lib.hid hee
    clear ho hd he hee hone
    obtain ⟨g, hg⟩ : ∃ g, w.heap.size = g := ⟨_, rfl⟩
    rw [hg] at HEE HB1 hB hgw1 ⊢
    clear hg HRW HF
    go_wp2_with fail
    refine (HI.out w1 (Nat.le_trans hB (Nat.le_of_lt hgw1)) (R.out.below (HB1.out.mono hB))).mono ?_
    rintro e w4 ⟨rfl, hb4⟩
    simp only [ixV]
    have HE4 := Lib.hid (HEE.out w4 hb4)
    clear hb4
    go_wp2
    go_ret
    exact HE4.out
  | some k =>
    have hkn : k < n := by have := (ixF_some ho).1; rw [HN.out] at this; exact this
    have hE := fun (w4 w' : World) (e : Ending) hr hF hb he => del_end (w := w) (w4 := w4) (w' := w') (g := w.heap.size) (n := n) (k := k) (t := t) (xs := xs) (s := s) (e := e) hr hF HN.out ho hb he
    have HE := Lib.hid hE
    clear ho hE
    have hln' := hln
    have HB1' := Lib.hid HB1.out
    obtain ⟨g, hg⟩ : ∃ g, w.heap.size = g := ⟨_, rfl⟩
    rw [hg] at HE HB1 HRW HF hB hgw1 ⊢
    clear hg
    go_wp2_with fail
    refine (HI.out w1 (Nat.le_trans hB (Nat.le_of_lt hgw1)) (R.out.below (HB1.out.mono hB))).mono ?_
    rintro e w4 ⟨rfl, hb4⟩
    simp only [ixV]
    have hrow4 := own_gr HRW.out (below_gr_row hb4)
    have hend := fun w' e he => HE.out w4 w' e hrow4 (HF.out.gr (gr_none (below_gr_row hb4))) (HB1.out.trans (hb4.mono (Nat.le_of_lt hgw1))) he
    have HROW4 := Lib.hid hrow4; have HEND := Lib.hid hend; have HONE := Lib.hid hone
    clear hrow4 hend hb4 hone
    go_wp2_with fail
    refine (Delete g n k g xs w4 hln hkn HROW4.out HONE.out).mono ?_
    rintro e w5 ⟨rfl, ho5, hg5⟩
    have HE5 := Lib.hid (HEND.out w5 _ ⟨rfl, ho5, hg5⟩)
    clear ho5 hg5
    go_wp2
    go_ret
    exact HE5.out

end Tr
end Go.Proofs.YtfnhjflocfmcoaaGreat

namespace Go.Proofs.YtfnhjflocfmcoaaGreat
open Go.RowKit
set_option linter.unusedVariables false
namespace Tr
open Tx

end Tr
end Go.Proofs.YtfnhjflocfmcoaaGreat

namespace Go.Proofs.YtfnhjflocfmcoaaGreat
open Go.RowKit
set_option linter.unusedVariables false
namespace Tr
open Tx

def SmallL (l : List (List UInt8)) : Prop := l.length ≤ 100000 ∧ ∀ x ∈ l, x.length ≤ 100000
theorem small_put {t : TR} {s : List UInt8} {l : List (List UInt8)} {k : Nat} (h : Small t) (hk : t.length ≤ k) (hk2 : k + 1 ≤ 100000) (hs : s.length ≤ 100000) (hl : SmallL l) : Small (put Op.bytesLess t s l) ∧ (put Op.bytesLess t s l).length ≤ k + 1 := by
  have hle : (put Op.bytesLess t s l).length ≤ k + 1 := by rw [put_len]; split <;> omega
  refine ⟨⟨by omega, fun x hx => ?_⟩, hle⟩
  rcases put_mem hx with rfl | hx
  · exact ⟨hs, hl.1, hl.2⟩
  · exact h.all x hx
theorem small_del {t : TR} {s : List UInt8} {k : Nat} (h : Small t) (hk : t.length ≤ k) : Small (del t s) ∧ (del t s).length ≤ k := by
  have hs := del_sub t s
  exact ⟨⟨Nat.le_trans hs.length_le h.len, fun x hx => h.all x (hs.subset hx)⟩, Nat.le_trans hs.length_le hk⟩
section
variable {A A' : Option Addr} {n c m c' B : Nat} {t u P : TR} {s : List UInt8} {l L : List (List UInt8)} {w : World} {b : Bool} {k : Nat}
end

theorem RdT.mv {w w' : World} {A : Option Addr} {t : TR} (h : RdT w w.heap.size A t) (hb : Below w.heap.size w w') : RdT w' w'.heap.size A t := (h.below hb).up hb.size
theorem rdS_mv {w w' : World} {A : Option Addr} {l : List (List UInt8)} (h : RdS w w.heap.size A l) (hb : Below w.heap.size w w') : RdS w' w'.heap.size A l := (Rd.below h hb).up hb.size
theorem below_mv {w0 w w' : World} (h : Below w0.heap.size w0 w) (hb : Below w.heap.size w w') : Below w0.heap.size w0 w' := h.trans (hb.mono h.size)

end Tr
end Go.Proofs.YtfnhjflocfmcoaaGreat

set_option maxRecDepth 100000
namespace Go.Proofs.YtfnhjflocfmcoaaGreat
open Go.RowKit
set_option linter.unusedVariables false
set_option linter.unusedSimpArgs false
namespace Pr
open Tx Df Sq Hk Tr

theorem wide_get {t : TR} {s : List UInt8} {l : List (List UInt8)} (h : Wide t) (hg : get t s = some l) : l.length ≤ 8796093021952 := h.all _ (get_mem hg)
theorem wide_del {t : TR} (h : Wide t) (s : List UInt8) : Wide (del t s) := ⟨Nat.le_trans (del_sub t s).length_le h.len, fun x hx => h.all x ((del_sub t s).subset hx)⟩

set_option maxRecDepth 100000 in
set_option maxHeartbeats 2000000 in
theorem addM (A0 : Option Addr) (n0 c0 : Nat) (A : Option Addr) (n c : Nat) (A' : Option Addr) (n' c' : Nat) (k : Int) (nm to : List UInt8) (q : Int) (t : TR) (w : World) (D : Int × TR) (hs : Wide t) (hn0 : t.length = n0) (hR : RdT w w.heap.size A0 t) (hD : (if (get t nm).isSome then ((5 : Int), ([] : TR)) else (0, put lt t nm [])) = D) :
    Calls Tryz.prog 72 #[prV k nm to q A n c A' n' c', .slice A0 n0 c0] w (DoEnd w D) := by
  have hbx := below_box1 w (.cells #[.int .i64 k, strV nm, strV to, .int .i64 q, .slice A n c, .slice A' n' c'] 105)
  obtain ⟨g, hg⟩ : ∃ g, get t nm = g := ⟨_, rfl⟩
  rw [hg] at hD
  have h2 := fun w1 hB hR => Get nm A0 c0 n0 w.heap.size t w1 hn0 hs hB hR
  rw [hg] at h2
  have hgl : ∀ l, g = some l → l.length ≤ 8796093021952 := fun l e => wide_get hs (hg.trans e)
  have B0 := Lib.hid (Blk.new w 105 #[.int .i64 k, strV nm, strV to, .int .i64 q, .slice A n c, .slice A' n' c'])
  have H2 := Lib.hid h2; have HBX := Lib.hid hbx; have HD := Lib.hid hD; have HG := Lib.hid hg; have HGL := Lib.hid hgl; have HS := Lib.hid hs; have HN0 := Lib.hid hn0; have HR := Lib.hid hR
  have h4 := fun (s : List UInt8) (A1 : Option Addr) (m1 c1 : Nat) (l : List (List UInt8)) w1 hm hm5 hR hR' => Put s A0 A1 c0 n0 w1.heap.size m1 c1 t l w1 hn0 hs hm hm5 (Nat.le_refl _) hR hR'
  have H4 := Lib.hid h4
  clear h4
  clear h2 hbx hD hg hgl hs hn0 hR
  go_enter Tryz.func72, Tryz.ntmps72
  go_wp2_with fail
  refine (H2.out _ HBX.out.size (HR.out.below HBX.out)).mono ?_
  rintro e w1 ⟨AL, cl, rfl, hcl, hrl, hb1⟩
  have b1 := B0.out.below hb1 B0.out.lt
  have RL := Lib.hid hrl; have HB1 := Lib.hid (below_via HBX.out hb1); have B1 := Lib.hid b1
  clear hrl hb1 H2 B0 HBX
  have x0 : w1.cell? ⟨w.heap.size, 0, none⟩ = some (.int .i64 k) := b1.cell 0 rfl
  have x1 : w1.cell? ⟨w.heap.size, 1, none⟩ = some (strV nm) := b1.cell 1 rfl
  have x2 : w1.cell? ⟨w.heap.size, 2, none⟩ = some (strV to) := b1.cell 2 rfl
  have x3 : w1.cell? ⟨w.heap.size, 3, none⟩ = some (.int .i64 q) := b1.cell 3 rfl
  have x4 : w1.cell? ⟨w.heap.size, 4, none⟩ = some (.slice A n c) := b1.cell 4 rfl
  have x5 : w1.cell? ⟨w.heap.size, 5, none⟩ = some (.slice A' n' c') := b1.cell 5 rfl
  clear b1
  cases g with
  | some l =>
    have HO : Hid (D = (5, [])) := Lib.hid (by rw [← HD.out]; rfl)
    go_wp2
    go_ret2
    exact doEnd_err HO.out HB1.out
  | none =>
    have HO : Hid ((0, put lt t nm []) = D) := Lib.hid (by rw [← HD.out]; rfl)
    go_wp2_with fail
    refine (H4.out nm none 0 0 [] w1 rfl (by decide) (rdT_mv HR.out HB1.out) (.inl rfl)).mono ?_
    rintro e w4 ⟨A4, c4, rfl, hc4, hr4, hb4⟩
    have HC4 := Lib.hid hc4; have HR4 := Lib.hid hr4; have HB4 := Lib.hid (below_to HB1.out hb4)
    clear hc4 hr4 hb4
    go_wp2
    go_ret2
    exact doEnd_ok HO.out.symm HC4.out HR4.out HB4.out

set_option maxRecDepth 100000 in
set_option maxHeartbeats 2000000 in
theorem removeM (A0 : Option Addr) (n0 c0 : Nat) (A : Option Addr) (n c : Nat) (A' : Option Addr) (n' c' : Nat) (k : Int) (nm to : List UInt8) (q : Int) (t : TR) (w : World) (D : Int × TR) (hs : Wide t) (hn0 : t.length = n0) (hR : RdT w w.heap.size A0 t) (hD : (match get t nm with | none => ((5 : Int), ([] : TR)) | some l => if l = [] then (0, del t nm) else (5, [])) = D) :
    Calls Tryz.prog 73 #[prV k nm to q A n c A' n' c', .slice A0 n0 c0] w (DoEnd w D) := by
  have hbx := below_box1 w (.cells #[.int .i64 k, strV nm, strV to, .int .i64 q, .slice A n c, .slice A' n' c'] 105)
  obtain ⟨g, hg⟩ : ∃ g, get t nm = g := ⟨_, rfl⟩
  rw [hg] at hD
  have h2 := fun w1 hB hR => Get nm A0 c0 n0 w.heap.size t w1 hn0 hs hB hR
  rw [hg] at h2
  have hgl : ∀ l, g = some l → l.length ≤ 8796093021952 := fun l e => wide_get hs (hg.trans e)
  have B0 := Lib.hid (Blk.new w 105 #[.int .i64 k, strV nm, strV to, .int .i64 q, .slice A n c, .slice A' n' c'])
  have H2 := Lib.hid h2; have HBX := Lib.hid hbx; have HD := Lib.hid hD; have HG := Lib.hid hg; have HGL := Lib.hid hgl; have HS := Lib.hid hs; have HN0 := Lib.hid hn0; have HR := Lib.hid hR
  have h5 := fun w1 hR => Del nm A0 c0 n0 w1.heap.size t w1 hn0 hs (Nat.le_refl _) hR
  have H5 := Lib.hid h5
  clear h5
  clear h2 hbx hD hg hgl hs hn0 hR
  go_enter Tryz.func73, Tryz.ntmps73
  go_wp2_with fail
  refine (H2.out _ HBX.out.size (HR.out.below HBX.out)).mono ?_
  rintro e w1 ⟨AL, cl, rfl, hcl, hrl, hb1⟩
  have b1 := B0.out.below hb1 B0.out.lt
  have RL := Lib.hid hrl; have HB1 := Lib.hid (below_via HBX.out hb1); have B1 := Lib.hid b1
  clear hrl hb1 H2 B0 HBX
  have x0 : w1.cell? ⟨w.heap.size, 0, none⟩ = some (.int .i64 k) := b1.cell 0 rfl
  have x1 : w1.cell? ⟨w.heap.size, 1, none⟩ = some (strV nm) := b1.cell 1 rfl
  have x2 : w1.cell? ⟨w.heap.size, 2, none⟩ = some (strV to) := b1.cell 2 rfl
  have x3 : w1.cell? ⟨w.heap.size, 3, none⟩ = some (.int .i64 q) := b1.cell 3 rfl
  have x4 : w1.cell? ⟨w.heap.size, 4, none⟩ = some (.slice A n c) := b1.cell 4 rfl
  have x5 : w1.cell? ⟨w.heap.size, 5, none⟩ = some (.slice A' n' c') := b1.cell 5 rfl
  clear b1
  cases g with
  | none =>
    have HO : Hid (D = (5, [])) := Lib.hid (by rw [← HD.out])
    go_wp2
    go_ret2
    exact doEnd_err HO.out HB1.out
  | some l =>
    have hll : l.length ≤ 8796093021952 := HGL.out l rfl
    clear HGL
    simp only [Option.getD_some, Option.isSome_some] at RL hcl ⊢
    obtain ⟨m, hm⟩ : ∃ m, l.length = m := ⟨_, rfl⟩
    rw [hm] at hcl hll ⊢
    have HM := Lib.hid hm; clear hm
    by_cases hm0 : m = 0
    · subst hm0
      have hl0 : l = [] := List.length_eq_zero_iff.1 HM.out
      have HO : Hid ((0, del t nm) = D) := Lib.hid (by rw [← HD.out]; exact (if_pos hl0).symm)
      clear HD hl0
      go_wp2_with fail
      refine (H5.out w1 (rdT_mv HR.out HB1.out)).mono ?_
      rintro e w4 ⟨A4, c4, rfl, hc4, hr4, hb4⟩
      have HC4 := Lib.hid hc4; have HR4 := Lib.hid hr4; have HB4 := Lib.hid (below_to HB1.out hb4)
      clear hc4 hr4 hb4
      go_wp2
      go_ret2
      exact doEnd_ok HO.out.symm HC4.out HR4.out HB4.out
    · have hl0 : ¬ l = [] := fun e => hm0 (by rw [← HM.out, e]; rfl)
      have HO : Hid (D = (5, [])) := Lib.hid (by rw [← HD.out]; exact if_neg hl0)
      clear HD hl0
      have hmp : 0 < m := by omega
      go_wp2
      go_ret2
      exact doEnd_err HO.out HB1.out

set_option maxRecDepth 100000 in
set_option maxHeartbeats 2000000 in
theorem moveM (A0 : Option Addr) (n0 c0 : Nat) (A : Option Addr) (n c : Nat) (A' : Option Addr) (n' c' : Nat) (k : Int) (nm to : List UInt8) (q : Int) (t : TR) (w : World) (D : Int × TR) (hs : Wide t) (hn0 : t.length = n0) (hR : RdT w w.heap.size A0 t) (hD : (match get t nm with | none => ((5 : Int), ([] : TR)) | some l => if (get t to).isSome then (5, []) else (0, put lt (del t nm) to l)) = D) :
    Calls Tryz.prog 74 #[prV k nm to q A n c A' n' c', .slice A0 n0 c0] w (DoEnd w D) := by
  have hbx := below_box1 w (.cells #[.int .i64 k, strV nm, strV to, .int .i64 q, .slice A n c, .slice A' n' c'] 105)
  obtain ⟨g, hg⟩ : ∃ g, get t nm = g := ⟨_, rfl⟩
  rw [hg] at hD
  have h2 := fun w1 hB hR => Get nm A0 c0 n0 w.heap.size t w1 hn0 hs hB hR
  rw [hg] at h2
  have hgl : ∀ l, g = some l → l.length ≤ 8796093021952 := fun l e => wide_get hs (hg.trans e)
  have B0 := Lib.hid (Blk.new w 105 #[.int .i64 k, strV nm, strV to, .int .i64 q, .slice A n c, .slice A' n' c'])
  have H2 := Lib.hid h2; have HBX := Lib.hid hbx; have HD := Lib.hid hD; have HG := Lib.hid hg; have HGL := Lib.hid hgl; have HS := Lib.hid hs; have HN0 := Lib.hid hn0; have HR := Lib.hid hR
  obtain ⟨g2, hg2⟩ : ∃ g, get t to = g := ⟨_, rfl⟩
  have h3 := fun w1 hR => Get to A0 c0 n0 w1.heap.size t w1 hn0 hs (Nat.le_refl _) hR
  rw [hg2] at h3
  have H3 := Lib.hid h3; have HG2 := Lib.hid hg2
  clear h3 hg2
  have h5 := fun w1 hR => Del nm A0 c0 n0 w1.heap.size t w1 hn0 hs (Nat.le_refl _) hR
  have H5 := Lib.hid h5
  clear h5
  clear h2 hbx hD hg hgl hs hn0 hR
  go_enter Tryz.func74, Tryz.ntmps74
  go_wp2_with fail
  refine (H2.out _ HBX.out.size (HR.out.below HBX.out)).mono ?_
  rintro e w1 ⟨AL, cl, rfl, hcl, hrl, hb1⟩
  have b1 := B0.out.below hb1 B0.out.lt
  have RL := Lib.hid hrl; have HB1 := Lib.hid (below_via HBX.out hb1); have B1 := Lib.hid b1
  clear hrl hb1 H2 B0 HBX
  have x0 : w1.cell? ⟨w.heap.size, 0, none⟩ = some (.int .i64 k) := b1.cell 0 rfl
  have x1 : w1.cell? ⟨w.heap.size, 1, none⟩ = some (strV nm) := b1.cell 1 rfl
  have x2 : w1.cell? ⟨w.heap.size, 2, none⟩ = some (strV to) := b1.cell 2 rfl
  have x3 : w1.cell? ⟨w.heap.size, 3, none⟩ = some (.int .i64 q) := b1.cell 3 rfl
  have x4 : w1.cell? ⟨w.heap.size, 4, none⟩ = some (.slice A n c) := b1.cell 4 rfl
  have x5 : w1.cell? ⟨w.heap.size, 5, none⟩ = some (.slice A' n' c') := b1.cell 5 rfl
  clear b1
  go_wp2_with fail
  refine (H3.out w1 (rdT_mv HR.out HB1.out)).mono ?_
  rintro e w2 ⟨AT, ct, rfl, hct, hrt, hb2⟩
  have b2 := B1.out.below hb2 B1.out.lt
  replace RL := Lib.hid (rdS_to RL.out hb2)
  have HB2 := Lib.hid (below_to HB1.out hb2); have B2 := Lib.hid b2
  clear hrt hb2 hct H3 B1 x0 x1 x2 x3 x4 x5
  have x1 : w2.cell? ⟨w.heap.size, 1, none⟩ = some (strV nm) := b2.cell 1 rfl
  have x2 : w2.cell? ⟨w.heap.size, 2, none⟩ = some (strV to) := b2.cell 2 rfl
  clear b2
  cases g with
  | none =>
    have HO : Hid (D = (5, [])) := Lib.hid (by rw [← HD.out])
    go_wp2
    go_ret2
    exact doEnd_err HO.out HB2.out
  | some l =>
    have hll : l.length ≤ 8796093021952 := HGL.out l rfl
    clear HGL
    simp only [Option.getD_some, Option.isSome_some] at RL hcl ⊢
    obtain ⟨m, hm⟩ : ∃ m, l.length = m := ⟨_, rfl⟩
    rw [hm] at hcl hll ⊢
    have HM := Lib.hid hm; clear hm
    cases g2 with
    | some l2 =>
      have HO : Hid (D = (5, [])) := Lib.hid (by rw [← HD.out]; simp only [HG2.out]; rfl)
      clear HD
      go_wp2
      go_ret2
      exact doEnd_err HO.out HB2.out
    | none =>
      have HO : Hid ((0, put lt (del t nm) to l) = D) := Lib.hid (by rw [← HD.out]; simp only [HG2.out]; rfl)
      clear HD
      obtain ⟨kd, hkd⟩ : ∃ kd, (del t nm).length = kd := ⟨_, rfl⟩
      have H7 : Hid (∀ A4 c4 w4, RdT w4 w4.heap.size A4 (del t nm) → RdS w4 w4.heap.size AL l → Calls Tryz.prog 104 #[.slice A4 kd c4, strV to, .slice AL m cl] w4 (TreeEnd w4 (put lt (del t nm) to l))) := Lib.hid (fun A4 c4 w4 hR hR' => Put to A4 AL c4 kd w4.heap.size m cl (del t nm) l w4 hkd (wide_del HS.out nm) HM.out (Nat.le_trans hll (by decide)) (Nat.le_refl _) hR hR')
      have HRT : Hid (RdT w2 w2.heap.size A0 t) := Lib.hid (rdT_mv HR.out HB2.out)
      have HB20 : Hid (Below w.heap.size w w2.drew) := Lib.hid (below_drewN HB2.out 1)
      have h8 := H5.out w2.drew (HRT.out.drewN 1)
      unfold TreeEnd at h8
      rw [hkd] at h8
      have H8 := Lib.hid h8
      have RLD : Hid (RdS w2.drew w2.drew.heap.size AL l) := Lib.hid (Rd.drewN RL.out 1)
      have BD : Hid (Blk w2.drew w.heap.size 105 _) := Lib.hid (B2.out.drewN 1)
      clear h8 hkd H5
      go_wp2_with fail
      go_region_held3 (fun w' => w'.cell? ⟨w.heap.size, 1, none⟩ = some (strV nm) ∧ w'.cell? ⟨w.heap.size, 2, none⟩ = some (strV to))
        (first | go_keep | (exact ⟨y1, y2⟩) | (exact ⟨z1, z2⟩))
        (first
          | (go_at_call 105; refine H8.out.mono ?_; rintro e w4 ⟨A4, c4, rfl, hc4, hr4, hb4⟩;
              have b4 := BD.out.below hb4 BD.out.lt; have y1 : w4.cell? ⟨w.heap.size, 1, none⟩ = some (strV nm) := b4.cell 1 rfl; have y2 : w4.cell? ⟨w.heap.size, 2, none⟩ = some (strV to) := b4.cell 2 rfl;
              have HR4 := Lib.hid hr4; have RL4 := Lib.hid (rdS_to RLD.out hb4); have HB4 := Lib.hid (below_to HB20.out hb4); have B4 := Lib.hid b4; clear hr4 hb4 b4)
          | (go_at_call 104; refine (H7.out A4 c4 w4 HR4.out RL4.out).mono ?_; rintro e w5 ⟨A5, c5, rfl, hc5, hr5, hb5⟩;
              have b5 := B4.out.below hb5 B4.out.lt; have z1 : w5.cell? ⟨w.heap.size, 1, none⟩ = some (strV nm) := b5.cell 1 rfl; have z2 : w5.cell? ⟨w.heap.size, 2, none⟩ = some (strV to) := b5.cell 2 rfl;
              have HC5 := Lib.hid hc5; have HR5 := Lib.hid hr5; have HB5 := Lib.hid (below_to HB4.out hb5); clear hc5 hr5 hb5 b5))
      go_wp2
      go_ret2
      exact doEnd_ok HO.out.symm HC5.out HR5.out HB5.out

set_option maxRecDepth 100000 in
set_option maxHeartbeats 2000000 in
theorem patchM (A0 : Option Addr) (n0 c0 : Nat) (A : Option Addr) (n c : Nat) (A' : Option Addr) (n' c' : Nat) (k : Int) (nm to : List UInt8) (q : Int) (t : TR) (w : World) (D : Int × TR) (hs : Wide t) (hn0 : t.length = n0) (hR : RdT w w.heap.size A0 t) (h : HU) (hq : h.pos = q) (hm : mayH h = true) (hv : HV w w.heap.size A n c A' n' c' h) (hD : (match get t nm with | none => ((5 : Int), ([] : TR)) | some l => if applyE l h = 0 then (0, put lt t nm (applyL l h)) else (applyE l h, [])) = D) :
    Calls Tryz.prog 75 #[prV k nm to q A n c A' n' c', .slice A0 n0 c0] w (DoEnd w D) := by
  have hbx := below_box1 w (.cells #[.int .i64 k, strV nm, strV to, .int .i64 q, .slice A n c, .slice A' n' c'] 105)
  obtain ⟨g, hg⟩ : ∃ g, get t nm = g := ⟨_, rfl⟩
  rw [hg] at hD
  have h2 := fun w1 hB hR => Get nm A0 c0 n0 w.heap.size t w1 hn0 hs hB hR
  rw [hg] at h2
  have hgl : ∀ l, g = some l → l.length ≤ 8796093021952 := fun l e => wide_get hs (hg.trans e)
  have B0 := Lib.hid (Blk.new w 105 #[.int .i64 k, strV nm, strV to, .int .i64 q, .slice A n c, .slice A' n' c'])
  have H2 := Lib.hid h2; have HBX := Lib.hid hbx; have HD := Lib.hid hD; have HG := Lib.hid hg; have HGL := Lib.hid hgl; have HS := Lib.hid hs; have HN0 := Lib.hid hn0; have HR := Lib.hid hR
  have h4 := fun (s : List UInt8) (A1 : Option Addr) (m1 c1 : Nat) (l : List (List UInt8)) w1 hm hm5 hR hR' => Put s A0 A1 c0 n0 w1.heap.size m1 c1 t l w1 hn0 hs hm hm5 (Nat.le_refl _) hR hR'
  have H4 := Lib.hid h4
  clear h4
  have h6 := fun (A1 : Option Addr) (m1 c1 : Nat) (l : List (List UInt8)) w1 hm hc h1 hR hv => ApplyW A1 m1 c1 A n c A' n' c' w1.heap.size l h w1 (Nat.le_refl _) hm hc h1 hR hv
  rw [hq] at h6
  have H6 := Lib.hid h6; have HV0 := Lib.hid hv; have HHM := Lib.hid hm; have HQ := Lib.hid hq
  clear h2 hbx hD hg hgl hs hn0 hR h6 hv hm hq
  go_enter Tryz.func75, Tryz.ntmps75
  go_wp2_with fail
  refine (H2.out _ HBX.out.size (HR.out.below HBX.out)).mono ?_
  rintro e w1 ⟨AL, cl, rfl, hcl, hrl, hb1⟩
  have b1 := B0.out.below hb1 B0.out.lt
  have RL := Lib.hid hrl; have HB1 := Lib.hid (below_via HBX.out hb1); have B1 := Lib.hid b1
  clear hrl hb1 H2 B0 HBX
  have x0 : w1.cell? ⟨w.heap.size, 0, none⟩ = some (.int .i64 k) := b1.cell 0 rfl
  have x1 : w1.cell? ⟨w.heap.size, 1, none⟩ = some (strV nm) := b1.cell 1 rfl
  have x2 : w1.cell? ⟨w.heap.size, 2, none⟩ = some (strV to) := b1.cell 2 rfl
  have x3 : w1.cell? ⟨w.heap.size, 3, none⟩ = some (.int .i64 q) := b1.cell 3 rfl
  have x4 : w1.cell? ⟨w.heap.size, 4, none⟩ = some (.slice A n c) := b1.cell 4 rfl
  have x5 : w1.cell? ⟨w.heap.size, 5, none⟩ = some (.slice A' n' c') := b1.cell 5 rfl
  clear b1
  cases g with
  | none =>
    have HO : Hid (D = (5, [])) := Lib.hid (by rw [← HD.out])
    go_wp2
    go_ret2
    exact doEnd_err HO.out HB1.out
  | some l =>
    have hll : l.length ≤ 8796093021952 := HGL.out l rfl
    clear HGL
    simp only [Option.getD_some, Option.isSome_some] at RL hcl ⊢
    obtain ⟨m, hm⟩ : ∃ m, l.length = m := ⟨_, rfl⟩
    rw [hm] at hcl hll ⊢
    have HM := Lib.hid hm; clear hm
    go_wp2_with fail
    refine (H6.out AL m cl l w1 HM.out hcl hll RL.out (hv_mv HV0.out HB1.out)).mono ?_
    rintro e w3 ⟨A3, k3, c3, rfl, hc3, hl3, hr3, hb3⟩
    have b3 := B1.out.below hb3 B1.out.lt
    have HR3 := Lib.hid hr3; have HB3 := Lib.hid (below_to HB1.out hb3)
    have hk3 : k3 ≤ 8796093022208 := by have h1 := applyL_len (l := l) (h := h); have h2 := mayH_new HHM.out; rw [hl3, HM.out] at h1; omega
    have HL3 := Lib.hid hl3
    clear x0 x1 x2 x3 x4 x5
    have x1 : w3.cell? ⟨w.heap.size, 1, none⟩ = some (strV nm) := b3.cell 1 rfl
    clear hl3 hr3 hb3 B1 RL b3 H6
    by_cases hz : applyE l h = 0
    · have HO : Hid ((0, put lt t nm (applyL l h)) = D) := Lib.hid (by rw [← HD.out]; exact (if_pos hz).symm)
      rw [hz]
      clear HD
      go_wp2_with fail
      refine (H4.out nm A3 k3 c3 (applyL l h) w3 HL3.out hk3 (rdT_mv HR.out HB3.out) HR3.out).mono ?_
      rintro e w4 ⟨A4, c4, rfl, hc4, hr4, hb4⟩
      have HC4 := Lib.hid hc4; have HR4 := Lib.hid hr4; have HB4 := Lib.hid (below_to HB3.out hb4)
      clear hc4 hr4 hb4
      go_wp2
      go_ret2
      exact doEnd_ok HO.out.symm HC4.out HR4.out HB4.out
    · have HO : Hid (D = (applyE l h, [])) := Lib.hid (by rw [← HD.out]; exact if_neg hz)
      clear HD
      generalize applyE l h = ae at *
      have ez : (ae == 0) = false := by rw [beq_eq_false_iff_ne]; exact hz
      go_wp2
      go_ret2
      exact doEnd_err HO.out HB3.out

set_option maxRecDepth 100000 in
set_option maxHeartbeats 2000000 in
theorem setM (A0 : Option Addr) (n0 c0 : Nat) (A : Option Addr) (n c : Nat) (A' : Option Addr) (n' c' : Nat) (k : Int) (nm to : List UInt8) (q : Int) (t : TR) (w : World) (D : Int × TR) (hs : Wide t) (hn0 : t.length = n0) (hR : RdT w w.heap.size A0 t) (h : HU) (hnew : n' ≤ 8796093022208) (hv : HV w w.heap.size A n c A' n' c' h) (hD : (match get t nm with | none => ((5 : Int), ([] : TR)) | some l => if l = h.old then (0, put lt t nm h.new) else (5, [])) = D) :
    Calls Tryz.prog 76 #[prV k nm to q A n c A' n' c', .slice A0 n0 c0] w (DoEnd w D) := by
  have hbx := below_box1 w (.cells #[.int .i64 k, strV nm, strV to, .int .i64 q, .slice A n c, .slice A' n' c'] 105)
  obtain ⟨g, hg⟩ : ∃ g, get t nm = g := ⟨_, rfl⟩
  rw [hg] at hD
  have h2 := fun w1 hB hR => Get nm A0 c0 n0 w.heap.size t w1 hn0 hs hB hR
  rw [hg] at h2
  have hgl : ∀ l, g = some l → l.length ≤ 8796093021952 := fun l e => wide_get hs (hg.trans e)
  have B0 := Lib.hid (Blk.new w 105 #[.int .i64 k, strV nm, strV to, .int .i64 q, .slice A n c, .slice A' n' c'])
  have H2 := Lib.hid h2; have HBX := Lib.hid hbx; have HD := Lib.hid hD; have HG := Lib.hid hg; have HGL := Lib.hid hgl; have HS := Lib.hid hs; have HN0 := Lib.hid hn0; have HR := Lib.hid hR
  have h4 := fun (s : List UInt8) (A1 : Option Addr) (m1 c1 : Nat) (l : List (List UInt8)) w1 hm hm5 hR hR' => Put s A0 A1 c0 n0 w1.heap.size m1 c1 t l w1 hn0 hs hm hm5 (Nat.le_refl _) hR hR'
  have H4 := Lib.hid h4
  clear h4
  have HV0 := Lib.hid hv
  clear h2 hbx hD hg hgl hs hn0 hR hv
  go_enter Tryz.func76, Tryz.ntmps76
  go_wp2_with fail
  refine (H2.out _ HBX.out.size (HR.out.below HBX.out)).mono ?_
  rintro e w1 ⟨AL, cl, rfl, hcl, hrl, hb1⟩
  have b1 := B0.out.below hb1 B0.out.lt
  have RL := Lib.hid hrl; have HB1 := Lib.hid (below_via HBX.out hb1); have B1 := Lib.hid b1
  clear hrl hb1 H2 B0 HBX
  have x0 : w1.cell? ⟨w.heap.size, 0, none⟩ = some (.int .i64 k) := b1.cell 0 rfl
  have x1 : w1.cell? ⟨w.heap.size, 1, none⟩ = some (strV nm) := b1.cell 1 rfl
  have x2 : w1.cell? ⟨w.heap.size, 2, none⟩ = some (strV to) := b1.cell 2 rfl
  have x3 : w1.cell? ⟨w.heap.size, 3, none⟩ = some (.int .i64 q) := b1.cell 3 rfl
  have x4 : w1.cell? ⟨w.heap.size, 4, none⟩ = some (.slice A n c) := b1.cell 4 rfl
  have x5 : w1.cell? ⟨w.heap.size, 5, none⟩ = some (.slice A' n' c') := b1.cell 5 rfl
  clear b1
  cases g with
  | none =>
    have HO : Hid (D = (5, [])) := Lib.hid (by rw [← HD.out])
    go_wp2
    go_ret2
    exact doEnd_err HO.out HB1.out
  | some l =>
    have hll : l.length ≤ 8796093021952 := HGL.out l rfl
    clear HGL
    simp only [Option.getD_some, Option.isSome_some] at RL hcl ⊢
    obtain ⟨m, hm⟩ : ∃ m, l.length = m := ⟨_, rfl⟩
    rw [hm] at hcl hll ⊢
    have HM := Lib.hid hm; clear hm
    go_wp2_with fail
    refine (Hk.Equal AL A cl c m n w1.heap.size l h.old w1 HM.out HV0.out.l (Nat.le_trans hll (by decide)) RL.out (hv_mv HV0.out HB1.out).r).mono ?_
    rintro e w3 ⟨rfl, d, rfl⟩
    have HB3 : Hid (Below w.heap.size w (w1.drewN d)) := Lib.hid (below_drewN HB1.out d)
    by_cases hz : l = h.old
    · have HO : Hid ((0, put lt t nm h.new) = D) := Lib.hid (by rw [← HD.out]; exact (if_pos hz).symm)
      have hdz : decide (l = h.old) = true := decide_eq_true hz
      rw [hdz]
      clear HD hdz
      go_wp2_with fail
      refine (H4.out nm A' n' c' h.new (w1.drewN d) HV0.out.l' hnew (rdT_mv HR.out HB3.out) ((Rd.drewN (hv_mv HV0.out HB1.out).r' d))).mono ?_
      rintro e w4 ⟨A4, c4, rfl, hc4, hr4, hb4⟩
      have HC4 := Lib.hid hc4; have HR4 := Lib.hid hr4; have HB4 := Lib.hid (below_to HB3.out hb4)
      clear hc4 hr4 hb4
      go_wp2
      go_ret2
      exact doEnd_ok HO.out.symm HC4.out HR4.out HB4.out
    · have HO : Hid (D = (5, [])) := Lib.hid (by rw [← HD.out]; exact if_neg hz)
      have hdz : decide (l = h.old) = false := decide_eq_false hz
      rw [hdz]
      clear HD hdz
      go_wp2
      go_ret2
      exact doEnd_err HO.out HB3.out

set_option maxHeartbeats 1000000 in
theorem deeds (w : World) : Calls Tryz.prog 56 #[] w fun e w' => e = .returned (.agg #[.func (.func 72) #[] #[], .func (.func 73) #[] #[], .func (.func 74) #[] #[], .func (.func 75) #[] #[], .func (.func 76) #[] #[]]) ∧ Below w.heap.size w w' := by
  have hb := below_box1 w (.cells #[.nilFunc, .nilFunc, .nilFunc, .nilFunc, .nilFunc] 103)
  have b0 := Blk.new w 103 #[.nilFunc, .nilFunc, .nilFunc, .nilFunc, .nilFunc]
  go_enter Tryz.func56, Tryz.ntmps56
  go_upto_region 1 with fail
  generalize w.alloc (.cells #[.nilFunc, .nilFunc, .nilFunc, .nilFunc, .nilFunc] 103) = w1 at *
  have x0 : w1.cell? ⟨w.heap.size, 0, none⟩ = some .nilFunc := b0.cell 0 rfl
  have f0 : w1.frozen? ⟨w.heap.size, 0, none⟩ = false := b0.frozen 0
  have x1 : w1.cell? ⟨w.heap.size, 1, none⟩ = some .nilFunc := b0.cell 1 rfl
  have f1 : w1.frozen? ⟨w.heap.size, 1, none⟩ = false := b0.frozen 1
  have x2 : w1.cell? ⟨w.heap.size, 2, none⟩ = some .nilFunc := b0.cell 2 rfl
  have f2 : w1.frozen? ⟨w.heap.size, 2, none⟩ = false := b0.frozen 2
  have x3 : w1.cell? ⟨w.heap.size, 3, none⟩ = some .nilFunc := b0.cell 3 rfl
  have f3 : w1.frozen? ⟨w.heap.size, 3, none⟩ = false := b0.frozen 3
  have x4 : w1.cell? ⟨w.heap.size, 4, none⟩ = some .nilFunc := b0.cell 4 rfl
  have f4 : w1.frozen? ⟨w.heap.size, 4, none⟩ = false := b0.frozen 4
  have b1 := blk5 b0 (.func (.func 72) #[] #[]) (.func (.func 73) #[] #[]) (.func (.func 74) #[] #[]) (.func (.func 75) #[] #[]) (.func (.func 76) #[] #[])
  have HB := Lib.hid (below5 hb (.func (.func 72) #[] #[]) (.func (.func 73) #[] #[]) (.func (.func 74) #[] #[]) (.func (.func 75) #[] #[]) (.func (.func 76) #[] #[])); have B1 := Lib.hid b1
  clear b0 b1 hb
  go_wp2
  have b1 := B1.out; have hb := HB.out
  clear x0 x1 x2 x3 x4 f0 f1 f2 f3 f4 B1 HB
  generalize (World.setCell (World.setCell (World.setCell (World.setCell (World.setCell w1 ⟨w.heap.size, 0, none⟩ (.func (.func 72) #[] #[])) ⟨w.heap.size, 1, none⟩ (.func (.func 73) #[] #[])) ⟨w.heap.size, 2, none⟩ (.func (.func 74) #[] #[])) ⟨w.heap.size, 3, none⟩ (.func (.func 75) #[] #[])) ⟨w.heap.size, 4, none⟩ (.func (.func 76) #[] #[])) = w2 at *
  have q0 : w2.cell? ⟨w.heap.size, 0, none⟩ = some (.func (.func 72) #[] #[]) := b1.cell 0 rfl
  have q1 : w2.cell? ⟨w.heap.size, 1, none⟩ = some (.func (.func 73) #[] #[]) := b1.cell 1 rfl
  have q2 : w2.cell? ⟨w.heap.size, 2, none⟩ = some (.func (.func 74) #[] #[]) := b1.cell 2 rfl
  have q3 : w2.cell? ⟨w.heap.size, 3, none⟩ = some (.func (.func 75) #[] #[]) := b1.cell 3 rfl
  have q4 : w2.cell? ⟨w.heap.size, 4, none⟩ = some (.func (.func 76) #[] #[]) := b1.cell 4 rfl
  refine bodyPost_ret (v := .agg #[.func (.func 72) #[] #[], .func (.func 73) #[] #[], .func (.func 74) #[] #[], .func (.func 75) #[] #[], .func (.func 76) #[] #[]]) (by simp [results, Tryz.results56, go_sem, q0, q1, q2, q3, q4]) rfl ?_
  exact ⟨rfl, hb⟩

theorem index_do (w : World) (i : Int) (f : Value) (hi : 0 ≤ i ∧ i < 5) (hf : (#[.func (.func 72) #[] #[], .func (.func 73) #[] #[], .func (.func 74) #[] #[], .func (.func 75) #[] #[], .func (.func 76) #[] #[]] : Array Value)[i.toNat]? = some f) :
    (Instr.index 103 (.agg #[.func (.func 72) #[] #[], .func (.func 73) #[] #[], .func (.func 74) #[] #[], .func (.func 75) #[] #[], .func (.func 76) #[] #[]]) (.int .i64 i)).run Tryz.prog w = .ok f w :=
  run_index_array Tryz.underlying103 hi (by kernel_rfl) (by kernel_rfl) hf

set_option maxHeartbeats 4000000 in
theorem ApplyP0 (A0 : Option Addr) (n0 c0 : Nat) (A : Option Addr) (n c : Nat) (A' : Option Addr) (n' c' : Nat) (nm to : List UInt8) (q : Int) (w : World) (D : Int × TR)
    (hmay : ∀ w1, Below w.heap.size w w1 → Calls Tryz.prog 55 #[prV 0 nm to q A n c A' n' c'] w1 (TestEnd w1 true))
    (hm : ∀ w1, Below w.heap.size w w1 → Calls Tryz.prog 72 #[prV 0 nm to q A n c A' n' c', .slice A0 n0 c0] w1 (DoEnd w1 D)) :
    Calls Tryz.prog 43 #[.slice A0 n0 c0, prV 0 nm to q A n c A' n' c'] w (DoEnd w D) := by
  have hbx : Below w.heap.size w (box w 0 nm to q A n c A' n' c') := (Below.refl _ _).alloc (Nat.le_refl _) _
  have HBX := Lib.hid hbx; have H1 := Lib.hid hm; have HM := Lib.hid hmay
  have B0 := Lib.hid (Blk.new w 55 #[.int .i64 0, strV nm, strV to, .int .i64 q, .slice A n c, .slice A' n' c'])
  clear hbx hm hmay
  go_enter Tryz.func43, Tryz.ntmps43
  go_wp2_with fail
  refine (HM.out (box w 0 nm to q A n c A' n' c') HBX.out).mono ?_
  rintro e W ⟨rfl, hb1⟩
  have b0 := B0.out.below hb1 B0.out.lt
  have HB1 := Lib.hid (below_via HBX.out hb1)
  have BW := Lib.hid b0
  have HH : Hid (∀ w1, Below W.heap.size W.drew w1 → Blk w1 w.heap.size 55 #[.int .i64 0, strV nm, strV to, .int .i64 q, .slice A n c, .slice A' n' c']) := Lib.hid (fun w1 hb => (BW.out.drewN 1).below hb BW.out.lt)
  have HT : Hid (∀ w1, Below W.heap.size W.drew w1 → Below w.heap.size w w1) := Lib.hid (fun w1 hb => (below_drewN HB1.out 1).trans (hb.mono HB1.out.size))
  clear hb1 B0 HBX
  have x0 : W.cell? ⟨w.heap.size, 0, none⟩ = some (.int .i64 0) := b0.cell 0 rfl
  have x1 : W.cell? ⟨w.heap.size, 1, none⟩ = some (strV nm) := b0.cell 1 rfl
  have x2 : W.cell? ⟨w.heap.size, 2, none⟩ = some (strV to) := b0.cell 2 rfl
  have x3 : W.cell? ⟨w.heap.size, 3, none⟩ = some (.int .i64 q) := b0.cell 3 rfl
  have x4 : W.cell? ⟨w.heap.size, 4, none⟩ = some (.slice A n c) := b0.cell 4 rfl
  have x5 : W.cell? ⟨w.heap.size, 5, none⟩ = some (.slice A' n' c') := b0.cell 5 rfl
  clear b0
  have qi := fun w => index_do w 0 _ (by decide) rfl
  go_wp2_with fail
  go_region_held3 (fun w' => w'.cell? ⟨w.heap.size, 0, none⟩ = some (.int .i64 0) ∧ w'.cell? ⟨w.heap.size, 1, none⟩ = some (strV nm) ∧ w'.cell? ⟨w.heap.size, 2, none⟩ = some (strV to) ∧ w'.cell? ⟨w.heap.size, 3, none⟩ = some (.int .i64 q) ∧ w'.cell? ⟨w.heap.size, 4, none⟩ = some (.slice A n c) ∧ w'.cell? ⟨w.heap.size, 5, none⟩ = some (.slice A' n' c'))
    (first | go_keep | (exact ⟨y0, y1, y2, y3, y4, y5⟩) | (exact ⟨z0, z1, z2, z3, z4, z5⟩))
    (first
      | (go_at_call 56; refine (deeds W.drew).mono ?_; rintro e w2 ⟨rfl, hb2⟩; have b2 := HH.out w2 hb2; have hb02 := HT.out w2 hb2; have y0 : w2.cell? ⟨w.heap.size, 0, none⟩ = some (.int .i64 0) := b2.cell 0 rfl; have y1 : w2.cell? ⟨w.heap.size, 1, none⟩ = some (strV nm) := b2.cell 1 rfl; have y2 : w2.cell? ⟨w.heap.size, 2, none⟩ = some (strV to) := b2.cell 2 rfl; have y3 : w2.cell? ⟨w.heap.size, 3, none⟩ = some (.int .i64 q) := b2.cell 3 rfl; have y4 : w2.cell? ⟨w.heap.size, 4, none⟩ = some (.slice A n c) := b2.cell 4 rfl; have y5 : w2.cell? ⟨w.heap.size, 5, none⟩ = some (.slice A' n' c') := b2.cell 5 rfl; have HB2 := Lib.hid hb02; have B2 := Lib.hid b2; clear b2 hb2 hb02)
      | (go_at_call 72; refine (H1.out w2 HB2.out).mono ?_; rintro e w3 ⟨A3, k3, c3, rfl, hc3, hl3, hr3, hb3⟩; have hb03 := below_via HB2.out hb3; have b3 := B2.out.below hb3 B2.out.lt; have z0 : w3.cell? ⟨w.heap.size, 0, none⟩ = some (.int .i64 0) := b3.cell 0 rfl; have z1 : w3.cell? ⟨w.heap.size, 1, none⟩ = some (strV nm) := b3.cell 1 rfl; have z2 : w3.cell? ⟨w.heap.size, 2, none⟩ = some (strV to) := b3.cell 2 rfl; have z3 : w3.cell? ⟨w.heap.size, 3, none⟩ = some (.int .i64 q) := b3.cell 3 rfl; have z4 : w3.cell? ⟨w.heap.size, 4, none⟩ = some (.slice A n c) := b3.cell 4 rfl; have z5 : w3.cell? ⟨w.heap.size, 5, none⟩ = some (.slice A' n' c') := b3.cell 5 rfl; have HB3 := Lib.hid hb03; have HC3 := Lib.hid hc3; have HL3 := Lib.hid hl3; have HR3 := Lib.hid hr3; clear b3 hb3 hb03 hc3 hl3 hr3))
  go_wp2
  go_ret2
  exact ⟨A3, k3, c3, rfl, HC3.out, HL3.out, HR3.out, HB3.out⟩

set_option maxHeartbeats 4000000 in
theorem ApplyP1 (A0 : Option Addr) (n0 c0 : Nat) (A : Option Addr) (n c : Nat) (A' : Option Addr) (n' c' : Nat) (nm to : List UInt8) (q : Int) (w : World) (D : Int × TR)
    (hmay : ∀ w1, Below w.heap.size w w1 → Calls Tryz.prog 55 #[prV 1 nm to q A n c A' n' c'] w1 (TestEnd w1 true))
    (hm : ∀ w1, Below w.heap.size w w1 → Calls Tryz.prog 73 #[prV 1 nm to q A n c A' n' c', .slice A0 n0 c0] w1 (DoEnd w1 D)) :
    Calls Tryz.prog 43 #[.slice A0 n0 c0, prV 1 nm to q A n c A' n' c'] w (DoEnd w D) := by
  have hbx : Below w.heap.size w (box w 1 nm to q A n c A' n' c') := (Below.refl _ _).alloc (Nat.le_refl _) _
  have HBX := Lib.hid hbx; have H1 := Lib.hid hm; have HM := Lib.hid hmay
  have B0 := Lib.hid (Blk.new w 55 #[.int .i64 1, strV nm, strV to, .int .i64 q, .slice A n c, .slice A' n' c'])
  clear hbx hm hmay
  go_enter Tryz.func43, Tryz.ntmps43
  go_wp2_with fail
  refine (HM.out (box w 1 nm to q A n c A' n' c') HBX.out).mono ?_
  rintro e W ⟨rfl, hb1⟩
  have b0 := B0.out.below hb1 B0.out.lt
  have HB1 := Lib.hid (below_via HBX.out hb1)
  have BW := Lib.hid b0
  have HH : Hid (∀ w1, Below W.heap.size W.drew w1 → Blk w1 w.heap.size 55 #[.int .i64 1, strV nm, strV to, .int .i64 q, .slice A n c, .slice A' n' c']) := Lib.hid (fun w1 hb => (BW.out.drewN 1).below hb BW.out.lt)
  have HT : Hid (∀ w1, Below W.heap.size W.drew w1 → Below w.heap.size w w1) := Lib.hid (fun w1 hb => (below_drewN HB1.out 1).trans (hb.mono HB1.out.size))
  clear hb1 B0 HBX
  have x0 : W.cell? ⟨w.heap.size, 0, none⟩ = some (.int .i64 1) := b0.cell 0 rfl
  have x1 : W.cell? ⟨w.heap.size, 1, none⟩ = some (strV nm) := b0.cell 1 rfl
  have x2 : W.cell? ⟨w.heap.size, 2, none⟩ = some (strV to) := b0.cell 2 rfl
  have x3 : W.cell? ⟨w.heap.size, 3, none⟩ = some (.int .i64 q) := b0.cell 3 rfl
  have x4 : W.cell? ⟨w.heap.size, 4, none⟩ = some (.slice A n c) := b0.cell 4 rfl
  have x5 : W.cell? ⟨w.heap.size, 5, none⟩ = some (.slice A' n' c') := b0.cell 5 rfl
  clear b0
  have qi := fun w => index_do w 1 _ (by decide) rfl
  go_wp2_with fail
  go_region_held3 (fun w' => w'.cell? ⟨w.heap.size, 0, none⟩ = some (.int .i64 1) ∧ w'.cell? ⟨w.heap.size, 1, none⟩ = some (strV nm) ∧ w'.cell? ⟨w.heap.size, 2, none⟩ = some (strV to) ∧ w'.cell? ⟨w.heap.size, 3, none⟩ = some (.int .i64 q) ∧ w'.cell? ⟨w.heap.size, 4, none⟩ = some (.slice A n c) ∧ w'.cell? ⟨w.heap.size, 5, none⟩ = some (.slice A' n' c'))
    (first | go_keep | (exact ⟨y0, y1, y2, y3, y4, y5⟩) | (exact ⟨z0, z1, z2, z3, z4, z5⟩))
    (first
      | (go_at_call 56; refine (deeds W.drew).mono ?_; rintro e w2 ⟨rfl, hb2⟩; have b2 := HH.out w2 hb2; have hb02 := HT.out w2 hb2; have y0 : w2.cell? ⟨w.heap.size, 0, none⟩ = some (.int .i64 1) := b2.cell 0 rfl; have y1 : w2.cell? ⟨w.heap.size, 1, none⟩ = some (strV nm) := b2.cell 1 rfl; have y2 : w2.cell? ⟨w.heap.size, 2, none⟩ = some (strV to) := b2.cell 2 rfl; have y3 : w2.cell? ⟨w.heap.size, 3, none⟩ = some (.int .i64 q) := b2.cell 3 rfl; have y4 : w2.cell? ⟨w.heap.size, 4, none⟩ = some (.slice A n c) := b2.cell 4 rfl; have y5 : w2.cell? ⟨w.heap.size, 5, none⟩ = some (.slice A' n' c') := b2.cell 5 rfl; have HB2 := Lib.hid hb02; have B2 := Lib.hid b2; clear b2 hb2 hb02)
      | (go_at_call 73; refine (H1.out w2 HB2.out).mono ?_; rintro e w3 ⟨A3, k3, c3, rfl, hc3, hl3, hr3, hb3⟩; have hb03 := below_via HB2.out hb3; have b3 := B2.out.below hb3 B2.out.lt; have z0 : w3.cell? ⟨w.heap.size, 0, none⟩ = some (.int .i64 1) := b3.cell 0 rfl; have z1 : w3.cell? ⟨w.heap.size, 1, none⟩ = some (strV nm) := b3.cell 1 rfl; have z2 : w3.cell? ⟨w.heap.size, 2, none⟩ = some (strV to) := b3.cell 2 rfl; have z3 : w3.cell? ⟨w.heap.size, 3, none⟩ = some (.int .i64 q) := b3.cell 3 rfl; have z4 : w3.cell? ⟨w.heap.size, 4, none⟩ = some (.slice A n c) := b3.cell 4 rfl; have z5 : w3.cell? ⟨w.heap.size, 5, none⟩ = some (.slice A' n' c') := b3.cell 5 rfl; have HB3 := Lib.hid hb03; have HC3 := Lib.hid hc3; have HL3 := Lib.hid hl3; have HR3 := Lib.hid hr3; clear b3 hb3 hb03 hc3 hl3 hr3))
  go_wp2
  go_ret2
  exact ⟨A3, k3, c3, rfl, HC3.out, HL3.out, HR3.out, HB3.out⟩

set_option maxHeartbeats 4000000 in
theorem ApplyP2 (A0 : Option Addr) (n0 c0 : Nat) (A : Option Addr) (n c : Nat) (A' : Option Addr) (n' c' : Nat) (nm to : List UInt8) (q : Int) (w : World) (D : Int × TR)
    (hmay : ∀ w1, Below w.heap.size w w1 → Calls Tryz.prog 55 #[prV 2 nm to q A n c A' n' c'] w1 (TestEnd w1 true))
    (hm : ∀ w1, Below w.heap.size w w1 → Calls Tryz.prog 74 #[prV 2 nm to q A n c A' n' c', .slice A0 n0 c0] w1 (DoEnd w1 D)) :
    Calls Tryz.prog 43 #[.slice A0 n0 c0, prV 2 nm to q A n c A' n' c'] w (DoEnd w D) := by
  have hbx : Below w.heap.size w (box w 2 nm to q A n c A' n' c') := (Below.refl _ _).alloc (Nat.le_refl _) _
  have HBX := Lib.hid hbx; have H1 := Lib.hid hm; have HM := Lib.hid hmay
  have B0 := Lib.hid (Blk.new w 55 #[.int .i64 2, strV nm, strV to, .int .i64 q, .slice A n c, .slice A' n' c'])
  clear hbx hm hmay
  go_enter Tryz.func43, Tryz.ntmps43
  go_wp2_with fail
  refine (HM.out (box w 2 nm to q A n c A' n' c') HBX.out).mono ?_
  rintro e W ⟨rfl, hb1⟩
  have b0 := B0.out.below hb1 B0.out.lt
  have HB1 := Lib.hid (below_via HBX.out hb1)
  have BW := Lib.hid b0
  have HH : Hid (∀ w1, Below W.heap.size W.drew w1 → Blk w1 w.heap.size 55 #[.int .i64 2, strV nm, strV to, .int .i64 q, .slice A n c, .slice A' n' c']) := Lib.hid (fun w1 hb => (BW.out.drewN 1).below hb BW.out.lt)
  have HT : Hid (∀ w1, Below W.heap.size W.drew w1 → Below w.heap.size w w1) := Lib.hid (fun w1 hb => (below_drewN HB1.out 1).trans (hb.mono HB1.out.size))
  clear hb1 B0 HBX
  have x0 : W.cell? ⟨w.heap.size, 0, none⟩ = some (.int .i64 2) := b0.cell 0 rfl
  have x1 : W.cell? ⟨w.heap.size, 1, none⟩ = some (strV nm) := b0.cell 1 rfl
  have x2 : W.cell? ⟨w.heap.size, 2, none⟩ = some (strV to) := b0.cell 2 rfl
  have x3 : W.cell? ⟨w.heap.size, 3, none⟩ = some (.int .i64 q) := b0.cell 3 rfl
  have x4 : W.cell? ⟨w.heap.size, 4, none⟩ = some (.slice A n c) := b0.cell 4 rfl
  have x5 : W.cell? ⟨w.heap.size, 5, none⟩ = some (.slice A' n' c') := b0.cell 5 rfl
  clear b0
  have qi := fun w => index_do w 2 _ (by decide) rfl
  go_wp2_with fail
  go_region_held3 (fun w' => w'.cell? ⟨w.heap.size, 0, none⟩ = some (.int .i64 2) ∧ w'.cell? ⟨w.heap.size, 1, none⟩ = some (strV nm) ∧ w'.cell? ⟨w.heap.size, 2, none⟩ = some (strV to) ∧ w'.cell? ⟨w.heap.size, 3, none⟩ = some (.int .i64 q) ∧ w'.cell? ⟨w.heap.size, 4, none⟩ = some (.slice A n c) ∧ w'.cell? ⟨w.heap.size, 5, none⟩ = some (.slice A' n' c'))
    (first | go_keep | (exact ⟨y0, y1, y2, y3, y4, y5⟩) | (exact ⟨z0, z1, z2, z3, z4, z5⟩))
    (first
      | (go_at_call 56; refine (deeds W.drew).mono ?_; rintro e w2 ⟨rfl, hb2⟩; have b2 := HH.out w2 hb2; have hb02 := HT.out w2 hb2; have y0 : w2.cell? ⟨w.heap.size, 0, none⟩ = some (.int .i64 2) := b2.cell 0 rfl; have y1 : w2.cell? ⟨w.heap.size, 1, none⟩ = some (strV nm) := b2.cell 1 rfl; have y2 : w2.cell? ⟨w.heap.size, 2, none⟩ = some (strV to) := b2.cell 2 rfl; have y3 : w2.cell? ⟨w.heap.size, 3, none⟩ = some (.int .i64 q) := b2.cell 3 rfl; have y4 : w2.cell? ⟨w.heap.size, 4, none⟩ = some (.slice A n c) := b2.cell 4 rfl; have y5 : w2.cell? ⟨w.heap.size, 5, none⟩ = some (.slice A' n' c') := b2.cell 5 rfl; have HB2 := Lib.hid hb02; have B2 := Lib.hid b2; clear b2 hb2 hb02)
      | (go_at_call 74; refine (H1.out w2 HB2.out).mono ?_; rintro e w3 ⟨A3, k3, c3, rfl, hc3, hl3, hr3, hb3⟩; have hb03 := below_via HB2.out hb3; have b3 := B2.out.below hb3 B2.out.lt; have z0 : w3.cell? ⟨w.heap.size, 0, none⟩ = some (.int .i64 2) := b3.cell 0 rfl; have z1 : w3.cell? ⟨w.heap.size, 1, none⟩ = some (strV nm) := b3.cell 1 rfl; have z2 : w3.cell? ⟨w.heap.size, 2, none⟩ = some (strV to) := b3.cell 2 rfl; have z3 : w3.cell? ⟨w.heap.size, 3, none⟩ = some (.int .i64 q) := b3.cell 3 rfl; have z4 : w3.cell? ⟨w.heap.size, 4, none⟩ = some (.slice A n c) := b3.cell 4 rfl; have z5 : w3.cell? ⟨w.heap.size, 5, none⟩ = some (.slice A' n' c') := b3.cell 5 rfl; have HB3 := Lib.hid hb03; have HC3 := Lib.hid hc3; have HL3 := Lib.hid hl3; have HR3 := Lib.hid hr3; clear b3 hb3 hb03 hc3 hl3 hr3))
  go_wp2
  go_ret2
  exact ⟨A3, k3, c3, rfl, HC3.out, HL3.out, HR3.out, HB3.out⟩

set_option maxHeartbeats 4000000 in
theorem ApplyP3 (A0 : Option Addr) (n0 c0 : Nat) (A : Option Addr) (n c : Nat) (A' : Option Addr) (n' c' : Nat) (nm to : List UInt8) (q : Int) (w : World) (D : Int × TR)
    (hmay : ∀ w1, Below w.heap.size w w1 → Calls Tryz.prog 55 #[prV 3 nm to q A n c A' n' c'] w1 (TestEnd w1 true))
    (hm : ∀ w1, Below w.heap.size w w1 → Calls Tryz.prog 75 #[prV 3 nm to q A n c A' n' c', .slice A0 n0 c0] w1 (DoEnd w1 D)) :
    Calls Tryz.prog 43 #[.slice A0 n0 c0, prV 3 nm to q A n c A' n' c'] w (DoEnd w D) := by
  have hbx : Below w.heap.size w (box w 3 nm to q A n c A' n' c') := (Below.refl _ _).alloc (Nat.le_refl _) _
  have HBX := Lib.hid hbx; have H1 := Lib.hid hm; have HM := Lib.hid hmay
  have B0 := Lib.hid (Blk.new w 55 #[.int .i64 3, strV nm, strV to, .int .i64 q, .slice A n c, .slice A' n' c'])
  clear hbx hm hmay
  go_enter Tryz.func43, Tryz.ntmps43
  go_wp2_with fail
  refine (HM.out (box w 3 nm to q A n c A' n' c') HBX.out).mono ?_
  rintro e W ⟨rfl, hb1⟩
  have b0 := B0.out.below hb1 B0.out.lt
  have HB1 := Lib.hid (below_via HBX.out hb1)
  have BW := Lib.hid b0
  have HH : Hid (∀ w1, Below W.heap.size W.drew w1 → Blk w1 w.heap.size 55 #[.int .i64 3, strV nm, strV to, .int .i64 q, .slice A n c, .slice A' n' c']) := Lib.hid (fun w1 hb => (BW.out.drewN 1).below hb BW.out.lt)
  have HT : Hid (∀ w1, Below W.heap.size W.drew w1 → Below w.heap.size w w1) := Lib.hid (fun w1 hb => (below_drewN HB1.out 1).trans (hb.mono HB1.out.size))
  clear hb1 B0 HBX
  have x0 : W.cell? ⟨w.heap.size, 0, none⟩ = some (.int .i64 3) := b0.cell 0 rfl
  have x1 : W.cell? ⟨w.heap.size, 1, none⟩ = some (strV nm) := b0.cell 1 rfl
  have x2 : W.cell? ⟨w.heap.size, 2, none⟩ = some (strV to) := b0.cell 2 rfl
  have x3 : W.cell? ⟨w.heap.size, 3, none⟩ = some (.int .i64 q) := b0.cell 3 rfl
  have x4 : W.cell? ⟨w.heap.size, 4, none⟩ = some (.slice A n c) := b0.cell 4 rfl
  have x5 : W.cell? ⟨w.heap.size, 5, none⟩ = some (.slice A' n' c') := b0.cell 5 rfl
  clear b0
  have qi := fun w => index_do w 3 _ (by decide) rfl
  go_wp2_with fail
  go_region_held3 (fun w' => w'.cell? ⟨w.heap.size, 0, none⟩ = some (.int .i64 3) ∧ w'.cell? ⟨w.heap.size, 1, none⟩ = some (strV nm) ∧ w'.cell? ⟨w.heap.size, 2, none⟩ = some (strV to) ∧ w'.cell? ⟨w.heap.size, 3, none⟩ = some (.int .i64 q) ∧ w'.cell? ⟨w.heap.size, 4, none⟩ = some (.slice A n c) ∧ w'.cell? ⟨w.heap.size, 5, none⟩ = some (.slice A' n' c'))
    (first | go_keep | (exact ⟨y0, y1, y2, y3, y4, y5⟩) | (exact ⟨z0, z1, z2, z3, z4, z5⟩))
    (first
      | (go_at_call 56; refine (deeds W.drew).mono ?_; rintro e w2 ⟨rfl, hb2⟩; have b2 := HH.out w2 hb2; have hb02 := HT.out w2 hb2; have y0 : w2.cell? ⟨w.heap.size, 0, none⟩ = some (.int .i64 3) := b2.cell 0 rfl; have y1 : w2.cell? ⟨w.heap.size, 1, none⟩ = some (strV nm) := b2.cell 1 rfl; have y2 : w2.cell? ⟨w.heap.size, 2, none⟩ = some (strV to) := b2.cell 2 rfl; have y3 : w2.cell? ⟨w.heap.size, 3, none⟩ = some (.int .i64 q) := b2.cell 3 rfl; have y4 : w2.cell? ⟨w.heap.size, 4, none⟩ = some (.slice A n c) := b2.cell 4 rfl; have y5 : w2.cell? ⟨w.heap.size, 5, none⟩ = some (.slice A' n' c') := b2.cell 5 rfl; have HB2 := Lib.hid hb02; have B2 := Lib.hid b2; clear b2 hb2 hb02)
      | (go_at_call 75; refine (H1.out w2 HB2.out).mono ?_; rintro e w3 ⟨A3, k3, c3, rfl, hc3, hl3, hr3, hb3⟩; have hb03 := below_via HB2.out hb3; have b3 := B2.out.below hb3 B2.out.lt; have z0 : w3.cell? ⟨w.heap.size, 0, none⟩ = some (.int .i64 3) := b3.cell 0 rfl; have z1 : w3.cell? ⟨w.heap.size, 1, none⟩ = some (strV nm) := b3.cell 1 rfl; have z2 : w3.cell? ⟨w.heap.size, 2, none⟩ = some (strV to) := b3.cell 2 rfl; have z3 : w3.cell? ⟨w.heap.size, 3, none⟩ = some (.int .i64 q) := b3.cell 3 rfl; have z4 : w3.cell? ⟨w.heap.size, 4, none⟩ = some (.slice A n c) := b3.cell 4 rfl; have z5 : w3.cell? ⟨w.heap.size, 5, none⟩ = some (.slice A' n' c') := b3.cell 5 rfl; have HB3 := Lib.hid hb03; have HC3 := Lib.hid hc3; have HL3 := Lib.hid hl3; have HR3 := Lib.hid hr3; clear b3 hb3 hb03 hc3 hl3 hr3))
  go_wp2
  go_ret2
  exact ⟨A3, k3, c3, rfl, HC3.out, HL3.out, HR3.out, HB3.out⟩

set_option maxHeartbeats 4000000 in
theorem ApplyP4 (A0 : Option Addr) (n0 c0 : Nat) (A : Option Addr) (n c : Nat) (A' : Option Addr) (n' c' : Nat) (nm to : List UInt8) (q : Int) (w : World) (D : Int × TR)
    (hmay : ∀ w1, Below w.heap.size w w1 → Calls Tryz.prog 55 #[prV 4 nm to q A n c A' n' c'] w1 (TestEnd w1 true))
    (hm : ∀ w1, Below w.heap.size w w1 → Calls Tryz.prog 76 #[prV 4 nm to q A n c A' n' c', .slice A0 n0 c0] w1 (DoEnd w1 D)) :
    Calls Tryz.prog 43 #[.slice A0 n0 c0, prV 4 nm to q A n c A' n' c'] w (DoEnd w D) := by
  have hbx : Below w.heap.size w (box w 4 nm to q A n c A' n' c') := (Below.refl _ _).alloc (Nat.le_refl _) _
  have HBX := Lib.hid hbx; have H1 := Lib.hid hm; have HM := Lib.hid hmay
  have B0 := Lib.hid (Blk.new w 55 #[.int .i64 4, strV nm, strV to, .int .i64 q, .slice A n c, .slice A' n' c'])
  clear hbx hm hmay
  go_enter Tryz.func43, Tryz.ntmps43
  go_wp2_with fail
  refine (HM.out (box w 4 nm to q A n c A' n' c') HBX.out).mono ?_
  rintro e W ⟨rfl, hb1⟩
  have b0 := B0.out.below hb1 B0.out.lt
  have HB1 := Lib.hid (below_via HBX.out hb1)
  have BW := Lib.hid b0
  have HH : Hid (∀ w1, Below W.heap.size W.drew w1 → Blk w1 w.heap.size 55 #[.int .i64 4, strV nm, strV to, .int .i64 q, .slice A n c, .slice A' n' c']) := Lib.hid (fun w1 hb => (BW.out.drewN 1).below hb BW.out.lt)
  have HT : Hid (∀ w1, Below W.heap.size W.drew w1 → Below w.heap.size w w1) := Lib.hid (fun w1 hb => (below_drewN HB1.out 1).trans (hb.mono HB1.out.size))
  clear hb1 B0 HBX
  have x0 : W.cell? ⟨w.heap.size, 0, none⟩ = some (.int .i64 4) := b0.cell 0 rfl
  have x1 : W.cell? ⟨w.heap.size, 1, none⟩ = some (strV nm) := b0.cell 1 rfl
  have x2 : W.cell? ⟨w.heap.size, 2, none⟩ = some (strV to) := b0.cell 2 rfl
  have x3 : W.cell? ⟨w.heap.size, 3, none⟩ = some (.int .i64 q) := b0.cell 3 rfl
  have x4 : W.cell? ⟨w.heap.size, 4, none⟩ = some (.slice A n c) := b0.cell 4 rfl
  have x5 : W.cell? ⟨w.heap.size, 5, none⟩ = some (.slice A' n' c') := b0.cell 5 rfl
  clear b0
  have qi := fun w => index_do w 4 _ (by decide) rfl
  go_wp2_with fail
  go_region_held3 (fun w' => w'.cell? ⟨w.heap.size, 0, none⟩ = some (.int .i64 4) ∧ w'.cell? ⟨w.heap.size, 1, none⟩ = some (strV nm) ∧ w'.cell? ⟨w.heap.size, 2, none⟩ = some (strV to) ∧ w'.cell? ⟨w.heap.size, 3, none⟩ = some (.int .i64 q) ∧ w'.cell? ⟨w.heap.size, 4, none⟩ = some (.slice A n c) ∧ w'.cell? ⟨w.heap.size, 5, none⟩ = some (.slice A' n' c'))
    (first | go_keep | (exact ⟨y0, y1, y2, y3, y4, y5⟩) | (exact ⟨z0, z1, z2, z3, z4, z5⟩))
    (first
      | (go_at_call 56; refine (deeds W.drew).mono ?_; rintro e w2 ⟨rfl, hb2⟩; have b2 := HH.out w2 hb2; have hb02 := HT.out w2 hb2; have y0 : w2.cell? ⟨w.heap.size, 0, none⟩ = some (.int .i64 4) := b2.cell 0 rfl; have y1 : w2.cell? ⟨w.heap.size, 1, none⟩ = some (strV nm) := b2.cell 1 rfl; have y2 : w2.cell? ⟨w.heap.size, 2, none⟩ = some (strV to) := b2.cell 2 rfl; have y3 : w2.cell? ⟨w.heap.size, 3, none⟩ = some (.int .i64 q) := b2.cell 3 rfl; have y4 : w2.cell? ⟨w.heap.size, 4, none⟩ = some (.slice A n c) := b2.cell 4 rfl; have y5 : w2.cell? ⟨w.heap.size, 5, none⟩ = some (.slice A' n' c') := b2.cell 5 rfl; have HB2 := Lib.hid hb02; have B2 := Lib.hid b2; clear b2 hb2 hb02)
      | (go_at_call 76; refine (H1.out w2 HB2.out).mono ?_; rintro e w3 ⟨A3, k3, c3, rfl, hc3, hl3, hr3, hb3⟩; have hb03 := below_via HB2.out hb3; have b3 := B2.out.below hb3 B2.out.lt; have z0 : w3.cell? ⟨w.heap.size, 0, none⟩ = some (.int .i64 4) := b3.cell 0 rfl; have z1 : w3.cell? ⟨w.heap.size, 1, none⟩ = some (strV nm) := b3.cell 1 rfl; have z2 : w3.cell? ⟨w.heap.size, 2, none⟩ = some (strV to) := b3.cell 2 rfl; have z3 : w3.cell? ⟨w.heap.size, 3, none⟩ = some (.int .i64 q) := b3.cell 3 rfl; have z4 : w3.cell? ⟨w.heap.size, 4, none⟩ = some (.slice A n c) := b3.cell 4 rfl; have z5 : w3.cell? ⟨w.heap.size, 5, none⟩ = some (.slice A' n' c') := b3.cell 5 rfl; have HB3 := Lib.hid hb03; have HC3 := Lib.hid hc3; have HL3 := Lib.hid hl3; have HR3 := Lib.hid hr3; clear b3 hb3 hb03 hc3 hl3 hr3))
  go_wp2
  go_ret2
  exact ⟨A3, k3, c3, rfl, HC3.out, HL3.out, HR3.out, HB3.out⟩

set_option maxHeartbeats 1000000 in
theorem ApplyNo (A0 : Option Addr) (n0 c0 : Nat) (A : Option Addr) (n c : Nat) (A' : Option Addr) (n' c' : Nat) (k : Int) (nm to : List UInt8) (q : Int) (w : World)
    (hmay : ∀ w1, Below w.heap.size w w1 → Calls Tryz.prog 55 #[prV k nm to q A n c A' n' c'] w1 (TestEnd w1 false)) :
    Calls Tryz.prog 43 #[.slice A0 n0 c0, prV k nm to q A n c A' n' c'] w (DoEnd w (1, [])) := by
  have hbx : Below w.heap.size w (box w k nm to q A n c A' n' c') := (Below.refl _ _).alloc (Nat.le_refl _) _
  have HBX := Lib.hid hbx; have HM := Lib.hid hmay
  clear hbx hmay
  go_enter Tryz.func43, Tryz.ntmps43
  go_wp2_with fail
  refine (HM.out (box w k nm to q A n c A' n' c') HBX.out).mono ?_
  rintro e W ⟨rfl, hb1⟩
  have HB1 := Lib.hid (below_via HBX.out hb1)
  clear hb1
  go_wp2
  go_ret2
  exact doEnd_err rfl HB1.out

theorem doP_g (t : TR) (p : Ch) (h : mayP p = true) (hk : p.k ≠ 0) : doP t p = doG t p (get t p.nm) := by
  unfold doP
  rw [if_neg (by rw [h]; decide), if_neg hk]
  rfl
theorem doP_add (t : TR) (p : Ch) (h : mayP p = true) (hk : p.k = 0) : doP t p = if (get t p.nm).isSome then (5, []) else (0, put lt t p.nm []) := by
  unfold doP
  rw [if_neg (by rw [h]; decide), if_pos hk]

theorem ApplyP (A0 : Option Addr) (n0 c0 : Nat) (A : Option Addr) (n c : Nat) (A' : Option Addr) (n' c' : Nat) (t : TR) (p : Ch) (w : World) (hs : Wide t) (hn0 : t.length = n0) (hR : RdT w w.heap.size A0 t) (hv : PV w w.heap.size A n c A' n' c' p) :
    Calls Tryz.prog 43 #[.slice A0 n0 c0, prV p.k p.nm p.to p.h.pos A n c A' n' c'] w (DoEnd w (doP t p)) := by
  have hmay := fun w1 (hb : Below w.heap.size w w1) => MayP A n c A' n' c' p w1 (mayP p) (hv.mv hb) rfl
  cases hm : mayP p with
  | false =>
    rw [hm] at hmay
    have hd : doP t p = (1, []) := by unfold doP; rw [if_pos hm]
    rw [hd]
    exact ApplyNo A0 n0 c0 A n c A' n' c' p.k p.nm p.to p.h.pos w hmay
  | true =>
    rw [hm] at hmay
    have hc := mayP_cases.1 hm
    have hRt := fun w1 (hb : Below w.heap.size w w1) => rdT_mv hR hb
    obtain ⟨k, nm, to, h⟩ := p
    dsimp only at hmay hv hc ⊢
    rcases hc.2 with ⟨rfl | rfl, _, _⟩ | ⟨rfl, _, _, _⟩ | ⟨rfl, _, h3⟩ | ⟨rfl, _, h3, _⟩
    · exact ApplyP0 A0 n0 c0 A n c A' n' c' nm to h.pos w _ hmay (fun w1 hb => addM A0 n0 c0 A n c A' n' c' 0 nm to h.pos t w1 _ hs hn0 (hRt w1 hb) (doP_add t ⟨0, nm, to, h⟩ hm rfl).symm)
    · refine ApplyP1 A0 n0 c0 A n c A' n' c' nm to h.pos w _ hmay (fun w1 hb => removeM A0 n0 c0 A n c A' n' c' 1 nm to h.pos t w1 _ hs hn0 (hRt w1 hb) ?_)
      rw [doP_g t ⟨1, nm, to, h⟩ hm (by dsimp only; decide)]
      dsimp only
      cases get t nm <;> rfl
    · refine ApplyP2 A0 n0 c0 A n c A' n' c' nm to h.pos w _ hmay (fun w1 hb => moveM A0 n0 c0 A n c A' n' c' 2 nm to h.pos t w1 _ hs hn0 (hRt w1 hb) ?_)
      rw [doP_g t ⟨2, nm, to, h⟩ hm (by dsimp only; decide)]
      dsimp only
      cases get t nm <;> rfl
    · refine ApplyP3 A0 n0 c0 A n c A' n' c' nm to h.pos w _ hmay (fun w1 hb => patchM A0 n0 c0 A n c A' n' c' 3 nm to h.pos t w1 _ hs hn0 (hRt w1 hb) h rfl h3 (hv_mv hv.h hb) ?_)
      rw [doP_g t ⟨3, nm, to, h⟩ hm (by dsimp only; decide)]
      dsimp only
      cases get t nm <;> rfl
    · refine ApplyP4 A0 n0 c0 A n c A' n' c' nm to h.pos w _ hmay (fun w1 hb => setM A0 n0 c0 A n c A' n' c' 4 nm to h.pos t w1 _ hs hn0 (hRt w1 hb) h (by have := mayH_new h3; rw [hv.h.l'] at this; omega) (hv_mv hv.h hb) ?_)
      rw [doP_g t ⟨4, nm, to, h⟩ hm (by dsimp only; decide)]
      dsimp only
      cases hg : get t nm with
      | none => rfl
      | some l =>
        by_cases hl : l = h.old
        · simp [doG, lineE, lineL, hl]
        · simp [doG, lineE, lineL, hl]

end Pr
end Go.Proofs.YtfnhjflocfmcoaaGreat

set_option maxRecDepth 100000
namespace Go.Proofs.YtfnhjflocfmcoaaGreat
open Go.RowKit
set_option linter.unusedVariables false
namespace Pr
open Tx Df Sq Hk Tr

section
variable {A0 A A' D D' : Option Addr} {n0 c0 n c n' c' m e m' e' : Nat} {t P : TR} {p q p2 : Ch} {w : World} {b : Bool} {k : Nat} {r : Int}
end

theorem PV.len {w : World} {B : Nat} {A A' : Option Addr} {n c n' c' : Nat} {p : Ch} (h : PV w B A n c A' n' c' p) (hp : lightP p = true) : n ≤ 1000 ∧ n' ≤ 1000 := by
  have := lightP_h hp
  rw [h.h.l, h.h.l'] at this
  omega

end Pr
end Go.Proofs.YtfnhjflocfmcoaaGreat

namespace Go.Proofs.YtfnhjflocfmcoaaGreat
open Go.RowKit
set_option linter.unusedVariables false
namespace Pr
open Tx Df Sq Hk Tr

end Pr
end Go.Proofs.YtfnhjflocfmcoaaGreat

set_option maxRecDepth 100000
namespace Go.Proofs.YtfnhjflocfmcoaaGreat
open Go.RowKit
set_option linter.unusedVariables false
namespace Pr
open Tx Df Sq Hk Tr

theorem way_light {p q x y : Ch} (w : Way p q x y) (hp : lightP p = true) (hq : lightP q = true) : lightP x = true ∧ lightP y = true := by
  have hk := way_kinds w
  have split : ∀ {r : Ch}, lightP r = true ↔ (light r.h.old 300 && light r.h.new 300) = true ∧ r.nm.length ≤ 100 ∧ r.to.length ≤ 100 := by
    intro r
    unfold lightP
    simp only [Bool.and_eq_true, decide_eq_true_eq]
  rw [split] at hp hq ⊢
  rw [split]
  rw [hk.1.2.2.1, hk.1.2.2.2, hk.1.2.1, hk.2.2.2.1, hk.2.2.2.2, hk.2.2.1]
  cases w with
  | apart h => exact ⟨hq, hp⟩
  | both kp kq hn u v h => exact ⟨hq, hp⟩
  | out kp kq hn => exact ⟨⟨hq.1, hp.2.1, hq.2.2⟩, hp⟩
  | into kq kp hn => exact ⟨hq, hp.1, hq.2.2, hp.2.2⟩

/-- A tree of at most k files of at most l lines. -/
structure Most (t : TR) (k l : Nat) : Prop where
  s : Small t
  k : t.length ≤ k
  l : ∀ x ∈ t, x.2.length ≤ l
theorem applyL_300 {l : List (List UInt8)} {p : Ch} (hp : lightP p = true) : (lineL l p).length ≤ l.length + 300 ∧ ∀ x ∈ lineL l p, x ∈ l ∨ x.length ≤ 100000 := by
  have h2 := lightP_h hp
  have h4 : ∀ x ∈ p.h.new, x.length ≤ 100000 := fun x hx => by
    simp only [lightP, light, Bool.and_eq_true, decide_eq_true_eq, List.all_eq_true] at hp
    have := hp.1.2.2 x hx
    omega
  unfold lineL
  split
  · refine ⟨Nat.le_trans applyL_len (by omega), fun x hx => ?_⟩
    unfold applyL at hx
    split at hx
    · simp only [swp, List.mem_append] at hx
      rcases hx with hx | hx | hx
      · exact .inl (List.mem_of_mem_take hx)
      · exact .inr (h4 x hx)
      · exact .inl (List.mem_of_mem_drop hx)
    · cases hx
  · exact ⟨by omega, fun x hx => .inr (h4 x hx)⟩
theorem Most.put {t : TR} {k l : Nat} {s : List UInt8} {ls : List (List UInt8)} (h : Most t k l) (hk : k + 1 ≤ 100000) (hs : s.length ≤ 100000) (hl : SmallL ls) (hll : ls.length ≤ l) : Most (put lt t s ls) (k + 1) l := by
  obtain ⟨h1, h2⟩ := small_put h.s h.k hk hs hl
  refine ⟨h1, h2, fun x hx => ?_⟩
  rcases put_mem hx with rfl | hx
  · exact hll
  · exact h.l x hx
theorem Most.del {t : TR} {k l : Nat} {s : List UInt8} (h : Most t k l) : Most (del t s) k l := by
  obtain ⟨h1, h2⟩ := small_del (s := s) h.s h.k
  exact ⟨h1, h2, fun x hx => h.l x ((del_sub t s).subset hx)⟩
theorem Most.mono {t : TR} {k l k' l' : Nat} (h : Most t k l) (hk : k ≤ k') (hl : l ≤ l') : Most t k' l' := ⟨h.s, Nat.le_trans h.k hk, fun x hx => Nat.le_trans (h.l x hx) hl⟩
theorem Most.do {t u : TR} {p : Ch} {r : Int} {k l : Nat} (h : Most t k l) (hk : k + 1 ≤ 100000) (hl : l + 300 ≤ 100000) (hp : lightP p = true) (hd : doP t p = (r, u)) : Most u (k + 1) (l + 300) := by
  have hnm : p.nm.length ≤ 100000 ∧ p.to.length ≤ 100000 := by
    simp only [lightP, Bool.and_eq_true, decide_eq_true_eq] at hp
    omega
  by_cases h0 : r = 0
  · subst h0
    obtain ⟨_, hd⟩ := doP_cases hd
    rcases hd with ⟨_, _, rfl⟩ | ⟨_, _, rfl⟩ | ⟨_, ls, hg, _, rfl⟩ | ⟨_, ls, hg, _, rfl⟩
    · exact (h.mono (Nat.le_refl _) (Nat.le_add_right _ _)).put hk hnm.1 ⟨Nat.zero_le _, fun x hx => by cases hx⟩ (Nat.zero_le _)
    · exact h.del.mono (Nat.le_succ _) (Nat.le_add_right _ _)
    · have h2 := h.s.all _ (get_mem hg)
      exact (h.del.mono (Nat.le_refl _) (Nat.le_add_right _ _)).put hk hnm.2 ⟨h2.l, h2.s⟩ (Nat.le_trans (h.l _ (get_mem hg)) (Nat.le_add_right _ _))
    · have h2 := h.s.all _ (get_mem hg)
      have h3 := h.l _ (get_mem hg)
      obtain ⟨a1, a2⟩ := applyL_300 (l := ls) hp
      dsimp only at h3
      exact (h.mono (Nat.le_refl _) (Nat.le_add_right _ _)).put hk hnm.1 ⟨by omega, fun x hx => (a2 x hx).elim (fun h => h2.s x h) id⟩ (by omega)
  · have h1 := doP_none (t := t) (p := p) (by rw [hd]; exact h0)
    rw [hd] at h1
    dsimp only at h1
    subst h1
    exact ⟨⟨by simp, fun x hx => by cases hx⟩, Nat.zero_le _, fun x hx => by cases hx⟩
theorem most_light {t : TR} (hl : lightT t = true) : Most t 40 300 := by
  obtain ⟨h40, hs⟩ := lightT_small hl
  refine ⟨hs, h40, fun x hx => ?_⟩
  simp only [lightT, Bool.and_eq_true, decide_eq_true_eq, List.all_eq_true] at hl
  have := hl.2 x hx
  simp only [light, Bool.and_eq_true, decide_eq_true_eq] at this
  omega
theorem grown {t u : TR} {p : Ch} {r : Int} (hl : lightT t = true) (hp : lightP p = true) (hd : doP t p = (r, u)) : Most u 41 600 := (most_light hl).do (by decide) (by decide) hp hd
end Pr
end Go.Proofs.YtfnhjflocfmcoaaGreat

set_option maxRecDepth 100000
namespace Go.Proofs.YtfnhjflocfmcoaaGreat
open Go.RowKit
set_option linter.unusedVariables false
set_option linter.unusedSimpArgs false
namespace Fl
open Tx Df Sq Hk Tr Pr

/-- One of a list of changes. -/
theorem RdP.elem {W : World} {S : Nat → Prop} {A : Option Addr} {l : List Ch} (h : RdP W S A l) {k : Nat} (hk : k < l.length) :
    ∃ a x B n c D m d, A = some a ∧ S a.block ∧ l[k]? = some x ∧
      W.cell? (a.add (k * 6)) = some (.int .i64 x.k) ∧ W.cell? ⟨(a.add (k * 6)).block, (a.add (k * 6)).off + 1, none⟩ = some (strV x.nm) ∧ W.cell? ⟨(a.add (k * 6)).block, (a.add (k * 6)).off + 2, none⟩ = some (strV x.to) ∧
      W.cell? ⟨(a.add (k * 6)).block, (a.add (k * 6)).off + 3, none⟩ = some (.int .i64 x.h.pos) ∧ W.cell? ⟨(a.add (k * 6)).block, (a.add (k * 6)).off + 4, none⟩ = some (.slice B n c) ∧ W.cell? ⟨(a.add (k * 6)).block, (a.add (k * 6)).off + 5, none⟩ = some (.slice D m d) ∧
      PG W S B n c D m d x := by
  obtain ⟨a, e, hS, c0, c1, c2, c3, B, n, c, D, m, d, c4, c5, c6⟩ := h.at_ hk
  exact ⟨a, l[k], B, n, c, D, m, d, e, hS, List.getElem?_eq_getElem hk, c0, c1, c2, c3, c4, c5, c6⟩
theorem take_at {α : Type} {l : List α} {k : Nat} {x : α} (h : l[k]? = some x) : l.take (k + 1) = l.take k ++ [x] := by
  rw [List.take_add_one, h]; rfl
theorem drop_at {α : Type} {l : List α} {k : Nat} {x : α} (h : l[k]? = some x) : l.drop k = x :: l.drop (k + 1) := by
  obtain ⟨hk, e⟩ := List.getElem?_eq_some_iff.1 h
  rw [List.drop_eq_getElem_cons hk, e]

/-- Light, and at a place up to 2^19. -/
def okP (p : Ch) : Bool := lightP p && decide (p.h.pos ≤ 524288)
def fewP (l : List Ch) (most : Nat) : Bool := decide (l.length ≤ most) && l.all okP
theorem fewP_no {l : List Ch} {x : Ch} {k most : Nat} (hx : l[k]? = some x) (h : okP x = false) : fewP l most = false := by
  have : l.all okP = false := by
    rw [List.all_eq_false]
    exact ⟨x, List.mem_of_getElem? hx, by rw [h]; decide⟩
  unfold fewP
  rw [this, Bool.and_false]

set_option maxHeartbeats 2000000 in
theorem Few (A : Option Addr) (n c most : Nat) (l : List Ch) (w : World) (b : Bool) (hm : most ≤ 1000) (h : PrsArg w A n c l) (hb : fewP l most = b) :
    Calls Tryz.prog 33 #[.slice A n c, .int .i64 (most : Int)] w (BoolEnd w b) := by
  have HR := Lib.hid h.rd; have HN := Lib.hid h.len
  have HB := Lib.hid hb.symm
  have hle := h.le
  clear h hb
  unfold maxLen at hle
  go_enter Tryz.func33, Tryz.ntmps33
  by_cases h0 : (most : Int) < (n : Int)
  · go_wp2
    go_ret
    exact ⟨ret_bool (by rw [HB.out]; unfold fewP; rw [HN.out, decide_eq_false (by omega)]; rfl), Below.refl _ _⟩
  · go_wp2
    go_loopw [5] (fun i wr => ∃ k : Nat, k ≤ n ∧ i = .int .i64 (k : Int) ∧ (l.take k).all okP = true ∧ Below w.heap.size w wr) (fun i _ => n - (intOf i).toNat)
    case atStart => exact ⟨0, Nat.zero_le _, rfl, rfl, Below.refl _ _⟩
    case round =>
      obtain ⟨k, hk, rfl, hall, hbw⟩ := hrel
      have HBW := Lib.hid hbw; have HAL := Lib.hid hall; clear hbw hall
      by_cases hlt : k < n
      · have hki : (k : Int) < (n : Int) := by omega
        obtain ⟨a, x, B, i, j, D, m, d, rfl, hS, hx, c0, c1, c2, c3, c4, c5, c6⟩ := ((HR.out.mv HBW.out).elem (k := k) (by rw [HN.out]; exact hlt))
        have HX := Lib.hid hx; have HP := Lib.hid c6; clear hx c6 hS
        go_wp2_with fail
        obtain ⟨bl, hbl⟩ : ∃ b, lightP x = b := ⟨_, rfl⟩
        refine (LightP B i j D m d _ x _ bl (Nat.le_refl _) HP.out.pv hbl).mono ?_
        rintro e w2 ⟨rfl, hb2⟩
        have HBL := Lib.hid hbl; clear hbl
        have hbw2 := below_mv HBW.out hb2
        have HBW2 := Lib.hid hbw2; clear hbw2
        have c3' : w2.cell? ⟨(a.add (k * 6)).block, (a.add (k * 6)).off + 3, none⟩ = some (.int .i64 x.h.pos) := cell_to (alike_below hb2) (World.block_lt_of_cell? _ _ c3) c3
        clear c0 c1 c2 c3 c4 c5 hb2
        cases bl with
        | false =>
          go_wp2
          go_ret
          exact ⟨ret_bool (by rw [HB.out, fewP_no HX.out (by unfold okP; rw [HBL.out]; rfl)]), HBW2.out⟩
        | true =>
        by_cases hp : 524288 < x.h.pos
        · go_wp2
          go_ret
          exact ⟨ret_bool (by rw [HB.out, fewP_no HX.out (by unfold okP; rw [HBL.out, decide_eq_false (by omega)]; rfl)]), HBW2.out⟩
        · go_wp2_with fail
          refine ⟨⟨k + 1, by omega, by go_num, ?_, HBW2.out⟩, by simp [intOf]; omega⟩
          rw [take_at HX.out, List.all_append, HAL.out]
          simp [okP, HBL.out]
          omega
      · go_wp2
        go_ret
        refine ⟨ret_bool ?_, HBW.out⟩
        have ek : l.take k = l := List.take_of_length_le (by rw [HN.out]; omega)
        have hall := HAL.out
        rw [ek] at hall
        rw [HB.out]
        unfold fewP
        rw [hall, HN.out, decide_eq_true (by omega)]
        rfl

end Fl
end Go.Proofs.YtfnhjflocfmcoaaGreat

set_option maxRecDepth 100000
namespace Go.Proofs.YtfnhjflocfmcoaaGreat
open Go.RowKit
set_option linter.unusedVariables false
namespace Rg

/-- J does not mind new blocks, nor the turn of one block, at or beyond B, that is Free. -/
def Ab {β : Type} (Free : Obj → Prop) (B : Nat) (J : β → World → Prop) : Prop :=
  ∀ s W W' row, J s W → W.grownBy W' row → (∀ r, row = some r → B ≤ r ∧ ∃ o : Obj, W.heap[r]? = some o ∧ Free o) → J s W'

section
variable {β : Type} {Free : Obj → Prop} {B : Nat} {J J' : β → World → Prop}
theorem Ab.alloc (h : Ab Free B J) {s : β} {W : World} (o : Obj) (hs : J s W) : J s (W.alloc o) := h s W _ none hs (World.grownBy_alloc W o none) (fun r e => by cases e)
theorem Ab.new (h : Ab Free B J) {s : β} {W W' : World} (hs : J s W) (hg : W.grownBy W' none) : J s W' := h s W _ none hs hg (fun r e => by cases e)
theorem Ab.put (h : Ab Free B J) {s : β} {W : World} {l : Nat} {o : Obj} (o' : Obj) (hs : J s W) (hB : B ≤ l) (hl : W.heap[l]? = some o) (ho : Free o) : J s (W.putObj l o') :=
  h s W _ (some l) hs (grownBy_putObj' W l o') (fun r e => by cases e; exact ⟨hB, o, hl, ho⟩)
theorem Ab.and (h : Ab Free B J) (h' : Ab Free B J') : Ab Free B (fun s W => J s W ∧ J' s W) := fun s W W' row hs hg hr => ⟨h s W W' row hs.1 hg hr, h' s W W' row hs.2 hg hr⟩
theorem ab_pure (Free : Obj → Prop) (B : Nat) (p : β → Prop) : Ab Free B (fun s (_ : World) => p s) := fun _ _ _ _ hs _ _ => hs
/-- What lay in w0 and is no other block than 'row' is as it was. -/
theorem grow_trans {w W W' : World} {r r' : Option Nat} (h : w.grownBy W r) (k : W.grownBy W' r') (hr : ∀ j, r' = some j → w.heap.size ≤ j ∨ r = some j) : w.grownBy W' r :=
  ⟨k.os.trans h.os, k.tape.trans h.tape, k.output.trans h.output, Nat.le_trans h.size k.size, fun j hj hne => by
    refine (k.block j (by have := h.size; omega) (fun e => ?_)).trans (h.block j hj hne)
    rcases hr j e.symm with h1 | h1
    · omega
    · exact hne h1.symm⟩
theorem ab_grown {w : World} {r : Option Nat} (hB : w.heap.size ≤ B) : Ab Free B (fun (_ : β) W => w.grownBy W r) := fun _ W W' row hs hg hrow =>
  grow_trans hs hg (fun j e => .inl (by have := (hrow j e).1; omega))
theorem ab_ex {γ : Type} {K : γ → β → World → Prop} (h : ∀ c, Ab Free B (K c)) : Ab Free B (fun s W => ∃ c, K c s W) := fun s W W' row ⟨c, hs⟩ hg hrow => ⟨c, h c s W W' row hs hg hrow⟩
end

/-- What is no cells may be turned. -/
abbrev Plain (o : Obj) : Prop := o.isCells = false
/-- The iterator gives the items of 'full', in order, as long as it is told to go on; E says as which values, and what holds there, an item is handed over. -/
def GivesE {α : Type} (P : Program) (Free : Obj → Prop) (n g : Nat) (lb : Array Value) (E : α → Array Value → World → Prop) (full : List α) (Kp : World → World → Prop) (w : World) : Prop :=
  ∀ (J Jx : List α → World → Prop) (W : World), Below w.heap.size w W → W.heap.size = w.heap.size + 2 → Ab Free (w.heap.size + 2) J → Ab Free (w.heap.size + 2) Jx →
    (∀ pre x post vals W1, full = pre ++ x :: post → J pre W1 → E x vals W1 → YieldAt Fence.wide (n - 1) P (w.heap.size + 1) vals W1 fun e W' =>
      (e = .returned (.bool true) ∧ J (pre ++ [x]) W' ∧ Kp W1 W') ∨ (e = .returned (.bool false) ∧ Jx (pre ++ [x]) W' ∧ KeepsFrom (w.heap.size + 2) W1 W')) →
    J [] W →
    CallsIn Fence.wide n P g (#[.func (.yield (w.heap.size + 1)) #[] #[]] ++ lb) W fun e W' => (∃ v, e = .returned v) ∧ (J full W' ∨ ∃ pre post, full = pre ++ post ∧ Jx pre W')
theorem keepsFrom_mono {B B' : Nat} {X Y : World} (h : KeepsFrom B X Y) (hB : B ≤ B') : KeepsFrom B' X Y := ⟨h.size, fun k o hk h1 h2 => h.same k o (by omega) h1 h2⟩
theorem keepsFrom_put {B l : Nat} (W : World) (o : Obj) (h : l < B) : KeepsFrom B W (W.putObj l o) := ⟨by simp, fun k o' hk h1 _ => (World.putObj_heap_other (by omega)).trans h1⟩
/-- Of a round that has said 'no more' less may be told. -/
theorem yield_less {P : Program} {n l : Nat} {vals : Array Value} {W1 : World} {T : Ending → World → Prop} {U V : World → Prop} (h : YieldAt Fence.wide n P l vals W1 fun e W' => T e W' ∨ (e = .returned (.bool false) ∧ U W' ∧ V W')) : YieldAt Fence.wide n P l vals W1 fun e W' => T e W' ∨ (e = .returned (.bool false) ∧ U W') := by
  obtain ⟨fn, tmps, assign, body, hy, hR⟩ := h
  exact ⟨fn, tmps, assign, body, hy, hR.mono fun e w' h => h.imp id fun h => ⟨h.1, h.2.1⟩⟩

section
variable {P : Program} {n : Nat}

theorem range_law {α : Type} {g : Operand} {ps : Array Tmp} {assign body : Code} {Q : Exit → Act → World → Prop} {a : Act} {w : World}
    {gf : Nat} {lb : Array Value} (hg : a.eval g = .func (.func gf) #[] lb) (eg : ∀ args w, (callFunc gf args).run P w = .ok (.enter gf args) w)
    {Free : Obj → Prop} (hfree : ∀ o : Obj, o.isCells = false → Free o) {E : α → Array Value → World → Prop} {full : List α} {Kp : World → World → Prop} (hseq : GivesE P Free (n - 1) gf lb E full Kp w)
    (hKt : ∀ {A B C : World}, Kp A B → Kp B C → Kp A C) (hKb : ∀ (W : World) (o o' : Obj), W.heap[w.heap.size + 1]? = some o → o.isCells = false → Kp W (W.putObj (w.heap.size + 1) o')) (hps : ∀ x vals W, E x vals W → vals.size = ps.size)
    (I : List α → World → Prop) (Ix : Code → List α → World → Prop) (hI : Ab Free w.heap.size I) (hIx : ∀ c, Ab Free w.heap.size (Ix c)) (h0 : I [] w)
    (Ax : α → Act → World → Prop) (hAx : ∀ x a', Ab Free w.heap.size (fun (_ : Unit) W => Ax x a' W))
    (hassign : ∀ (l : Nat) (pre : List α) (x : α) (vals : Array Value) (W : World) (K : Act → World → Prop), I pre W → E x vals W → (∀ a' W', KeepsFrom w.heap.size W W' → Kp W W' → I pre W' → Ax x a' W' → K a' W') →
      assign.wpIn (Fence.wide.inRound l) (n - 1 - 1) P (Exit.then K (fun _ _ _ => False)) { tmps := (ps.zip vals).foldl (fun t (p, v) => t.setIfInBounds p v) a.tmps, defers := [] } W)
    (hbody : ∀ (l : Nat) (pre post : List α) (x : α) (a' : Act) (W : World), full = pre ++ x :: post → I pre W → Ax x a' W → body.wpIn (Fence.wide.inRound l) (n - 1 - 1) P (ownPostG w.heap.size Kp I Ix (pre ++ [x]) W) a' W)
    (hdone : ∀ (D : Nat) (W : World), w.heap.size ≤ D → I full W → W.heap[D]? = some (.deferred (some [])) → Q .normal { a with defers := { target := .collected D, args := #[] } :: a.defers } W)
    (hstop : ∀ (D : Nat) (c : Code) (pre post : List α) (W : World), w.heap.size ≤ D → full = pre ++ post → Ix c pre W → W.heap[D]? = some (.deferred (some [])) → c.wpIn Fence.wide n P Q { a with defers := { target := .collected D, args := #[] } :: a.defers } W) :
    (Code.rangeFunc g ps assign body).wpIn Fence.wide n P Q a w := by
  refine wpIn_rangeFunc fun fn hfn => ?_
  let rc : LoopState → Option Code → Loop := fun st pe => { state := st, pending := pe, fn, tmps := a.tmps, params := ps, assign, body, defers := w.heap.size }
  have hd1 : ((w.alloc (.deferred (some []))).alloc (.loop (rc .ready none))).heap[w.heap.size + 1]? = some (.loop (rc .ready none)) := by
    have := World.alloc_heap_new (w.alloc (.deferred (some []))) (.loop (rc .ready none)); rwa [World.size_alloc] at this
  have hd0 : ((w.alloc (.deferred (some []))).alloc (.loop (rc .ready none))).heap[w.heap.size]? = some (.deferred (some [])) :=
    (Below.heap_alloc _ _ _ (by simp)).trans (World.alloc_heap_new w _)
  have hb1 : Below w.heap.size w ((w.alloc (.deferred (some []))).alloc (.loop (rc .ready none))) := ((Below.refl _ w).alloc (Nat.le_refl _) _).alloc (by simp) _
  have hs1 : ((w.alloc (.deferred (some []))).alloc (.loop (rc .ready none))).heap.size = w.heap.size + 2 := by simp
  have hi1 : I [] ((w.alloc (.deferred (some []))).alloc (.loop (rc .ready none))) := hI.alloc _ (hI.alloc _ h0)
  have hrun := run_enterLoop_outer (P := P) (w := w) fn a.tmps ps assign body
  refine ⟨w.heap.size + 1, _, ((w.alloc (.deferred (some []))).alloc (.loop (rc .ready none))), { target := .fn (.func gf) lb, args := #[.func (.yield (w.heap.size + 1)) #[] #[]] }, ((w.alloc (.deferred (some []))).alloc (.loop (rc .ready none))), gf, #[.func (.yield (w.heap.size + 1)) #[] #[]] ++ lb, ((w.alloc (.deferred (some []))).alloc (.loop (rc .ready none))), hrun, ?_, ?_, ?_, (fun h => by cases h), ?_⟩
  · simp only [resolve, hg]; simp [go_sem]
  · intro f' hf'; exact trivial
  · simp [invoke, go_sem, eg]
  · have keep : ∀ {A B : World} {row : Option Nat} {k : Nat} {o : Obj}, A.grownBy B row → (∀ r, row = some r → w.heap.size + 2 ≤ r ∧ ∃ o : Obj, A.heap[r]? = some o ∧ Free o) → k < w.heap.size + 2 → A.heap[k]? = some o → B.heap[k]? = some o := fun hg' hr hk ho =>
      (hg'.block _ (Array.getElem?_eq_some_iff.1 ho).1 (fun e => by have := (hr _ e.symm).1; omega)).trans ho
    have up : ∀ {A : World} {row : Option Nat}, (∀ r, row = some r → w.heap.size + 2 ≤ r ∧ ∃ o : Obj, A.heap[r]? = some o ∧ Free o) → (∀ r, row = some r → w.heap.size ≤ r ∧ ∃ o : Obj, A.heap[r]? = some o ∧ Free o) := fun hr r e => ⟨by have := (hr r e).1; omega, (hr r e).2⟩
    refine (hseq (fun pre W => I pre W ∧ W.heap[w.heap.size + 1]? = some (.loop (rc .ready none)) ∧ W.heap[w.heap.size]? = some (.deferred (some [])))
      (fun pre W => ∃ c, Ix c pre W ∧ W.heap[w.heap.size + 1]? = some (.loop (rc .done (some c))) ∧ W.heap[w.heap.size]? = some (.deferred (some [])))
      _ hb1 hs1
      (fun s A B row hs hg' hr => ⟨hI s A B row hs.1 hg' (up hr), keep hg' hr (by omega) hs.2.1, keep hg' hr (by omega) hs.2.2⟩)
      (fun s A B row ⟨c, hc, hl, hk⟩ hg' hr => ⟨c, hIx c s A B row hc hg' (up hr), keep hg' hr (by omega) hl, keep hg' hr (by omega) hk⟩)
      ?_ ⟨hi1, hd1, hd0⟩).mono ?_
    · rintro pre x post vals W hfull ⟨hi, hl, hk⟩ hE
      have hy := run_yield (P := P) (args := vals) hl (hps x vals W hE)
      refine ⟨fn, _, assign, body, hy, roundIn_of_wpIn hfn (hassign _ pre x vals W _ hi hE fun a' Wa hkf hkp hia hax => ?_)⟩
      have hl' := hkf.same _ _ (by omega) hl rfl
      have hk' := hkf.same _ _ (Nat.le_refl _) hk rfl
      have hlt : w.heap.size + 1 < Wa.heap.size := (Array.getElem?_eq_some_iff.1 hl').1
      refine ⟨_, run_beginRound hl' rfl, ?_⟩
      have hl2 : (Wa.putObj (w.heap.size + 1) (.loop { rc .ready none with state := .busy })).heap[w.heap.size + 1]? = some (.loop { rc .ready none with state := .busy }) := World.putObj_heap_same hlt
      have hk2 : (Wa.putObj (w.heap.size + 1) (.loop { rc .ready none with state := .busy })).heap[w.heap.size]? = some (.deferred (some [])) := (World.putObj_heap_other (by omega)).trans hk'
      have hw2 := hKt hkp (hKb Wa _ (.loop { rc .ready none with state := .busy }) hl' rfl)
      refine wpIn_mono (hbody _ pre post x a' _ hfull (hI.put _ hia (by omega) hl' (hfree _ rfl)) ((hAx x a').put (s := ()) _ hax (by omega) hl' (hfree _ rfl))) ?_
      have fin : ∀ (jump : Option Code) (W3 : World), KeepsFrom w.heap.size (Wa.putObj (w.heap.size + 1) (.loop { rc .ready none with state := .busy })) W3 →
          (Instr.endRound (w.heap.size + 1) jump).run P W3 = .ok (.bool jump.isNone) (W3.putObj (w.heap.size + 1) (.loop (rc (if jump.isNone then .ready else .done) jump))) ∧
          W3.heap[w.heap.size + 1]? = some (.loop { rc .ready none with state := .busy }) ∧
          (W3.putObj (w.heap.size + 1) (.loop (rc (if jump.isNone then .ready else .done) jump))).heap[w.heap.size + 1]? = some (.loop (rc (if jump.isNone then .ready else .done) jump)) ∧
          (W3.putObj (w.heap.size + 1) (.loop (rc (if jump.isNone then .ready else .done) jump))).heap[w.heap.size]? = some (.deferred (some [])) := fun jump W3 hk3 => by
        have hl3 := hk3.same _ _ (by omega) hl2 rfl
        exact ⟨run_endRound (P := P) jump hl3, hl3, World.putObj_heap_same (Array.getElem?_eq_some_iff.1 hl3).1, (World.putObj_heap_other (by omega)).trans (hk3.same _ _ (Nat.le_refl _) hk2 rfl)⟩
      have out : ∀ (c : Code) (W3 : World), KeepsFrom w.heap.size (Wa.putObj (w.heap.size + 1) (.loop { rc .ready none with state := .busy })) W3 → Ix c (pre ++ [x]) W3 →
          ∃ c', Ix c' (pre ++ [x]) (W3.putObj (w.heap.size + 1) (.loop (rc .done (some c)))) ∧ (W3.putObj (w.heap.size + 1) (.loop (rc .done (some c)))).heap[w.heap.size + 1]? = some (.loop (rc .done (some c'))) ∧ (W3.putObj (w.heap.size + 1) (.loop (rc .done (some c)))).heap[w.heap.size]? = some (.deferred (some [])) := fun c W3 hk3 hi3 => by
        obtain ⟨_, hl3, hl4, hk4⟩ := fin (some c) W3 hk3
        exact ⟨c, (hIx c).put _ hi3 (by omega) hl3 (hfree _ rfl), hl4, hk4⟩
      have kf : ∀ (o : Obj) (W3 : World), KeepsFrom w.heap.size (Wa.putObj (w.heap.size + 1) (.loop { rc .ready none with state := .busy })) W3 → KeepsFrom (w.heap.size + 2) W (W3.putObj (w.heap.size + 1) o) := fun o W3 h =>
        (((keepsFrom_mono hkf (by omega)).trans (keepsFrom_put _ _ (by omega))).trans (keepsFrom_mono h (by omega))).trans (keepsFrom_put _ _ (by omega))
      rintro e a3 W3 hp
      cases e with
      | normal =>
        obtain ⟨hk3, hkp3, hi3⟩ := hp
        obtain ⟨hr, hl3, hl4, hk4⟩ := fin none W3 hk3
        exact ⟨_, _, hr, .inl ⟨rfl, ⟨hI.put _ hi3 (by omega) hl3 (hfree _ rfl), hl4, hk4⟩, hKt (hKt hw2 hkp3) (hKb _ _ _ hl3 rfl)⟩⟩
      | ret => exact ⟨_, _, (fin (some .ret) W3 hp.1).1, .inr ⟨rfl, out _ W3 hp.1 hp.2, kf _ W3 hp.1⟩⟩
      | exit id => exact ⟨_, _, (fin (some (.exit id)) W3 hp.1).1, .inr ⟨rfl, out _ W3 hp.1 hp.2, kf _ W3 hp.1⟩⟩
      | goto t => exact ⟨_, _, (fin (some (.goto t)) W3 hp.1).1, .inr ⟨rfl, out _ W3 hp.1 hp.2, kf _ W3 hp.1⟩⟩
      | panic ch => exact hp.elim
      | outgrown => exact hp.elim
    · rintro e W2 ⟨⟨v, rfl⟩, ⟨hi, hl, hk⟩ | ⟨pre, post, hpp, c, hi, hl, hk⟩⟩
      · exact ⟨none, _, run_endLoop (P := P) hl (by simp [rc]), hdone _ _ (Nat.le_refl _) (hI.put _ hi (by omega) hl (hfree _ rfl)) ((World.putObj_heap_other (by omega)).trans hk)⟩
      · exact ⟨some c, _, run_endLoop (P := P) hl (by simp [rc]), hstop _ c pre post _ (Nat.le_refl _) hpp ((hIx c).put _ hi (by omega) hl (hfree _ rfl)) ((World.putObj_heap_other (by omega)).trans hk)⟩

end

section
variable {P : Program} {ops : Array Oper} {Q : Exit → Act → World → Prop} {l n : Nat} {md : Region.Mode}

def noDefer (ops : List Oper) : Bool := ops.all fun o => match o.op with | .defer _ => false | _ => true
theorem noDefer_spec {ops : List Oper} (h : noDefer ops = true) {o : Oper} (ho : o ∈ ops) : ∀ c, o.op ≠ .defer c := by
  intro c e
  have := List.all_eq_true.1 h o ho
  rw [e] at this; cases this

theorem oper_round {o : Oper} (hd : ∀ c, o.op ≠ .defer c) (hQ : ¬ LetsOut Q) {a : Act} {w : World} {K : Act → World → Prop} (h : o.wp P a w K Q) : o.wpIn (Fence.wide.inRound l) n P a w K Q := by
  refine ⟨fun _ _ => trivial, ?_⟩
  rw [Oper.semAt_eq _ _ _ hd]
  unfold Oper.wp at h
  generalize (execOp a.eval o).run P w = r at *
  cases r with
  | ok x w' =>
    cases x <;> simp only [Oper.upon, Oper.uponIn] at h ⊢ <;>
      first
        | exact h
        | exact ⟨fun h => (by cases h), CallsIn.inRound l (callsIn_wide.2 h)⟩
        | exact ⟨fun h => (by cases h), fun b cs _ => let ⟨v, w'', r, s⟩ := h b cs; ⟨v, w'', r, stepsIn_wide.2 s⟩⟩
        | exact h.elim
  | halt x w' => cases x <;> simp only [Oper.upon, Oper.uponIn] at h ⊢ <;> exact h

theorem any_round (hd : noDefer ops.toList = true) (hQ : ¬ LetsOut Q) : ∀ (fuel : Nat) (listed : Array Bool) (a : Act) (w : World), wpAny P md ops Q fuel listed a w → wpAnyIn (Fence.wide.inRound l) n P md ops Q fuel listed a w
  | 0, _, _, _, h => h
  | fuel + 1, listed, a, w, h => ⟨h.1, fun i hi => by
      have h1 := h.2 i hi
      unfold wpOp at h1
      unfold wpOpIn
      cases ho : ops[i]? with
      | none => simp only [ho] at h1 ⊢; exact any_round hd hQ fuel _ _ _ h1
      | some o =>
        simp only [ho] at h1 ⊢
        have hm : o ∈ ops.toList := by
          obtain ⟨hlt, e⟩ := Array.getElem?_eq_some_iff.1 ho
          rw [← e]; exact Array.getElem_mem_toList hlt
        split
        · rename_i hw
          simp only [hw, if_true] at h1
          rcases h1 with h1 | ⟨_, h1⟩
          · exact Oper.wpIn_mono (fun a w h => any_round hd hQ fuel _ a w h) (oper_round (noDefer_spec hd hm) hQ h1)
          · exact absurd h1 hQ
        · rename_i hw
          simp only [hw] at h1
          exact ⟨fun _ _ => trivial, any_round hd hQ fuel _ _ _ (by simpa using h1)⟩⟩

theorem round_any {id : Nat} {a : Act} {w : World} (hm : P.follows .mixedOrders = true) (hd : noDefer ops.toList = true) (hQ : ¬ LetsOut Q)
    (h : wpAny P .any ops Q ops.size (Array.replicate ops.size false) a { w with drawn := w.drawn + 1 }) : (Code.region id ops true).wpIn (Fence.wide.inRound l) n P Q a w :=
  wpIn_region_any hm (any_round hd hQ _ _ _ _ h)

/-- .. of a region whose loads meet what S says, whatever comes ahead of them. -/
theorem round_held {id : Nat} {S : World → Prop} {a : Act} {w : World} (hm : P.follows .mixedOrders = true) (hd : noDefer ops.toList = true) (hQ : ¬ LetsOut Q) (hS : S w.drew)
    (h : S w.drew → wpAnyH P .any ops Q S ops.size (Array.replicate ops.size false) a w.drew) : (Code.region id ops true).wpIn (Fence.wide.inRound l) n P Q a w :=
  round_any hm hd hQ (wpAny_of_held _ _ _ _ (h hS))

end

section
variable {F : Fence} {n : Nat} {P : Program} {ops : Array Oper} {Q : Exit → Act → World → Prop} {md : Region.Mode}

end

end Rg
end Go.Proofs.YtfnhjflocfmcoaaGreat

set_option maxRecDepth 100000
namespace Go.Proofs.YtfnhjflocfmcoaaGreat
open Go.RowKit
set_option linter.unusedVariables false
namespace Fl
open Tx Df Sq Hk Tr Pr

/-- The blocks that there are, but for those of R. -/
def But (W : World) (R : Nat → Prop) : Nat → Prop := fun b => b < W.heap.size ∧ ¬ R b
theorem but_up {W W' : World} {R : Nat → Prop} (hs : W.heap.size ≤ W'.heap.size) : ∀ b, But W R b → But W' R b := fun b h => ⟨Nat.lt_of_lt_of_le h.1 hs, h.2⟩
theorem but_lt {W : World} {R : Nat → Prop} : ∀ b, But W R b → b < W.heap.size := fun b h => h.1
/-- Rows of cells in blocks that S names are as they were. -/
def KeepC (S : Nat → Prop) (W W' : World) : Prop := ∀ (b : Nat) (c : Array Value) (t : TypeId) (f : Nat × Nat), S b → W.heap[b]? = some (.cells c t f) → W'.heap[b]? = some (.cells c t f)
theorem cell_cells {W : World} {p : Addr} {u : Value} (h : W.cell? p = some u) : ∃ c t f, W.heap[p.block]? = some (.cells c t f) := by
  unfold World.cell? at h
  split at h
  · rename_i e; exact ⟨_, _, _, e⟩
  · cases h
section
variable {W W' : World} {S T : Nat → Prop} {A B : Option Addr} {xs : List Value} {n c m d base : Nat} {x : Ch} {l : List Ch} {v : Value} {row : Option Nat}
theorem KeepC.cell {p : Addr} {u : Value} (h : KeepC S W W') (hp : S p.block) (hc : W.cell? p = some u) : W'.cell? p = some u := by
  obtain ⟨c, t, f, e⟩ := cell_cells hc
  exact (World.cell?_of_block ((h _ c t f hp e).trans e.symm)).trans hc
theorem RdG.kc (h : RdG W S A xs) (hk : KeepC S W W') : RdG W' S A xs := h.imp id fun ⟨a, e, h1, h2⟩ => ⟨a, e, h1, fun j u hu => hk.cell (by rw [add_block]; exact h1) (h2 j u hu)⟩
theorem PG.kc (h : PG W S A n c B m d x) (hk : KeepC S W W') : PG W' S A n c B m d x := ⟨h.l, h.l', h.k, h.k', h.mm, h.mm', h.r.kc hk, h.r'.kc hk, h.pp, h.kk, h.nm, h.to, h.s, h.s'⟩
theorem PCells.kc (h : PCells W S l xs) (hk : KeepC S W W') : PCells W' S l xs := fun k x hx => by
  obtain ⟨A, n, c, B, m, d, h0, h1, h2, h3, h4, h5, h6⟩ := h k x hx
  exact ⟨A, n, c, B, m, d, h0, h1, h2, h3, h4, h5, h6.kc hk⟩
theorem keepC_plain (hg : W.grownBy W' row) (hr : ∀ r, row = some r → ∃ o : Obj, W.heap[r]? = some o ∧ o.isCells = false) : KeepC S W W' := fun b c t f _ hb => by
  refine (hg.block b (Array.getElem?_eq_some_iff.1 hb).1 fun e => ?_).trans hb
  obtain ⟨o, ho, hc⟩ := hr b e.symm
  rw [hb] at ho
  cases ho
  cases hc
theorem keepC_below (h : Below W.heap.size W W') : KeepC S W W' := fun b c t f _ hb => (h.block b (Array.getElem?_eq_some_iff.1 hb).1).trans hb
theorem OwnS.plain (h : OwnS W S base v l) (hg : W.grownBy W' row) (hr : ∀ r, row = some r → ∃ o : Obj, W.heap[r]? = some o ∧ o.isCells = false) : OwnS W' S base v l := by
  obtain ⟨xs, h1, h2⟩ := h
  refine ⟨xs, h1.kept hg ?_, h2.kc (keepC_plain hg hr)⟩
  rcases h1.2 with ⟨rfl, _⟩ | ⟨g, cap, cur, rfl, _, hgb, _⟩
  · exact .inl rfl
  · refine .inr fun e' => ?_
    obtain ⟨o, ho, hf⟩ := hr g (by simpa [Value.ownBlock] using e'.symm)
    rw [hgb] at ho; cases ho; cases hf
/-- .. where other blocks than its row and its lines' grow. -/
theorem OwnS.gr (h : OwnS W S base v l) (hg : W.grownBy W' row) (hne : ∀ g, v.ownBlock = some g → row ≠ some g) (hS : ∀ b, S b → row ≠ some b) : OwnS W' S base v l := by
  obtain ⟨xs, h1, h2⟩ := h
  refine ⟨xs, h1.kept hg ?_, h2.to ((alike_gr hg).mono fun b hb e => hS b hb e.symm)⟩
  rcases h1.2 with ⟨rfl, _⟩ | ⟨g, cap, cur, rfl, _, hgb, _⟩
  · exact .inl rfl
  · exact .inr fun e => hne g rfl e.symm
end

open Rg
section
variable {β : Type} {B : Nat}
theorem ab_blk {b : Nat} {t : TypeId} (f : β → Array Value) : Ab Plain B (fun s W => Blk W b t (f s)) := fun s W W' row hs hg hrow =>
  hs.gr hg (fun e => by obtain ⟨_, o, ho, hf⟩ := hrow b e.symm; rw [show W.heap[b]? = _ from hs] at ho; cases ho; cases hf)
theorem ab_ownS {R : Nat → Prop} {base : Nat} {v : Value} (f : β → List Ch) : Ab Plain B (fun s W => OwnS W (But W R) base v (f s)) := fun s W W' row hs hg hrow =>
  (hs.plain hg (fun r e => (hrow r e).2)).mono (but_up hg.size)
theorem ab_pg {R : Nat → Prop} {A D : Option Addr} {n c m d : Nat} (f : β → Ch) : Ab Plain B (fun s W => PG W (But W R) A n c D m d (f s)) := fun s W W' row hs hg hrow =>
  (hs.kc (keepC_plain hg (fun r e => (hrow r e).2))).mono (but_up hg.size)
end

/-- The cells of m changes can be read. -/
def Cells6 (W : World) (A : Option Addr) (m : Nat) : Prop := ∀ i, i < m → ∃ a v0 v1 v2 v3 v4 v5, A = some a ∧ W.cell? (a.add (i * 6)) = some v0 ∧ W.cell? ⟨(a.add (i * 6)).block, (a.add (i * 6)).off + 1, none⟩ = some v1 ∧ W.cell? ⟨(a.add (i * 6)).block, (a.add (i * 6)).off + 2, none⟩ = some v2 ∧
  W.cell? ⟨(a.add (i * 6)).block, (a.add (i * 6)).off + 3, none⟩ = some v3 ∧ W.cell? ⟨(a.add (i * 6)).block, (a.add (i * 6)).off + 4, none⟩ = some v4 ∧ W.cell? ⟨(a.add (i * 6)).block, (a.add (i * 6)).off + 5, none⟩ = some v5
theorem Cells6.kc {W W' : World} {A : Option Addr} {m : Nat} (h : Cells6 W A m) (hk : KeepC (fun _ => True) W W') : Cells6 W' A m := fun i hi => by
  obtain ⟨a, v0, v1, v2, v3, v4, v5, e, h0, h1, h2, h3, h4, h5⟩ := h i hi
  exact ⟨a, v0, v1, v2, v3, v4, v5, e, hk.cell trivial h0, hk.cell trivial h1, hk.cell trivial h2, hk.cell trivial h3, hk.cell trivial h4, hk.cell trivial h5⟩
theorem cells6_below {W W' : World} {A : Option Addr} {m : Nat} (h : Cells6 W A m) (hb : Below W.heap.size W W') : Cells6 W' A m := h.kc (keepC_below hb)
theorem cells6_own {W : World} {S : Nat → Prop} {A : Option Addr} {l : List Ch} {m n c base : Nat} (h : OwnS W S base (.slice A n c) l) (hm : l.length = m) : Cells6 W A m := fun i hi => by
  have hr0 := h
  obtain ⟨xs, hr, _⟩ := hr0
  rcases hr.2 with ⟨_, h0⟩ | ⟨g, cap, cur, e, _, hgb, hc, _⟩
  · omega
  · injection e with e1 e2 e3
    subst e1
    have e2' : n = l.length := e2
    subst e2'
    obtain ⟨B, i', j, D, m', d, c0, c1, c2, c3, c4, c5, _⟩ := h.elem rfl (List.getElem?_eq_getElem (show i < l.length by omega))
    have ea : (⟨g, 0, none⟩ : Addr).add (i * 6) = ⟨g, i * 6, none⟩ := by unfold Addr.add; split <;> simp_all
    exact ⟨_, _, _, _, _, _, _, rfl, by rw [ea]; exact c0, by rw [ea]; exact c1, by rw [ea]; exact c2, by rw [ea]; exact c3, by rw [ea]; exact c4, by rw [ea]; exact c5⟩

end Fl
end Go.Proofs.YtfnhjflocfmcoaaGreat

set_option maxRecDepth 100000
namespace Go.Proofs.YtfnhjflocfmcoaaGreat
open Go.RowKit
set_option linter.unusedVariables false
namespace Tg
open Tx Df Sq Hk Tr Pr Fl Pn

/-- Two slice values that read, in blocks that S names, as a patch's Deps and changes. -/
structure NG (w : World) (S : Nat → Prop) (D : Option Addr) (dn dc : Nat) (A : Option Addr) (n c : Nat) (p : Nm) : Prop where
  dl : p.deps.length = dn
  dk : dn ≤ dc
  dm : dn ≤ maxLen
  dr : RdG w S D (idsV p.deps)
  tm : p.txt.length ≤ maxLen
  l : p.l.length = n
  k : n ≤ c
  m : n ≤ maxLen
  r : RdP w S A p.l
section
variable {W W' : World} {S T : Nat → Prop} {D A : Option Addr} {dn dc n c B base : Nat} {p : Nm} {l : List Ch} {xs : List Value}
theorem PrAt.kc {a : Addr} {k : Nat} {x : Ch} (h : PrAt W S a k x) (hS : S a.block) (hk : KeepC S W W') : PrAt W' S a k x := by
  obtain ⟨c0, c1, c2, c3, A, n, c, B, m, d, c4, c5, c6⟩ := h
  have hb : S (a.add (k * 6)).block := by rw [add_block]; exact hS
  exact ⟨hk.cell hb c0, hk.cell hb c1, hk.cell hb c2, hk.cell hb c3, A, n, c, B, m, d, hk.cell hb c4, hk.cell hb c5, c6.kc hk⟩
theorem RdP.kc_ (h : RdP W S A l) (hk : KeepC S W W') : RdP W' S A l := h.imp id fun ⟨a, e, h1, h2⟩ => ⟨a, e, h1, fun k x hx => PrAt.kc (h2 k x hx) h1 hk⟩
theorem NG.mono (h : NG W S D dn dc A n c p) (hs : ∀ b, S b → T b) : NG W T D dn dc A n c p := ⟨h.dl, h.dk, h.dm, h.dr.mono hs, h.tm, h.l, h.k, h.m, h.r.mono hs⟩
theorem NG.to_ (h : NG W S D dn dc A n c p) (ha : Fl.Alike S W W') : NG W' S D dn dc A n c p := ⟨h.dl, h.dk, h.dm, h.dr.to ha, h.tm, h.l, h.k, h.m, h.r.to ha⟩
theorem NG.kc (h : NG W S D dn dc A n c p) (hk : KeepC S W W') : NG W' S D dn dc A n c p := ⟨h.dl, h.dk, h.dm, h.dr.kc hk, h.tm, h.l, h.k, h.m, RdP.kc_ h.r hk⟩
theorem NG.nv (h : NG W (· < B) D dn dc A n c p) : NV W B D dn dc A n c p := ⟨h.dl, h.dk, h.dm, h.dr, h.tm, h.l, h.k, h.m, h.r⟩
theorem ng_of (h : NV W B D dn dc A n c p) : NG W (· < B) D dn dc A n c p := ⟨h.dl, h.dk, h.dm, h.dr, h.tm, h.l, h.k, h.m, h.r⟩
end

/-- The blocks made behind w. -/
def Since (w W : World) : Nat → Prop := fun b => w.heap.size ≤ b ∧ b < W.heap.size
theorem since_lt {w W : World} : ∀ b, Since w W b → b < W.heap.size := fun b h => h.2

/-- The cells of patches, as far as they go; what they hold lies in blocks that S names. -/
def NCellsS (W : World) (S : Nat → Prop) (l : List Nm) (xs : List Value) : Prop :=
  ∀ (k : Nat) x, l[k]? = some x → ∃ D dn dc A n c, xs[k * 5]? = some (.int .i64 x.id.1) ∧ xs[k * 5 + 1]? = some (.int .i64 x.id.2) ∧ xs[k * 5 + 2]? = some (.slice D dn dc) ∧ xs[k * 5 + 3]? = some (strV x.txt) ∧ xs[k * 5 + 4]? = some (.slice A n c) ∧ NG W S D dn dc A n c x
section
variable {W W' : World} {S T : Nat → Prop} {N base : Nat} {v : Value} {l u : List Nm} {xs ys : List Value}
theorem NCellsS.mono (h : NCellsS W S l xs) (hs : ∀ b, S b → T b) : NCellsS W T l xs := fun k x hx => by
  obtain ⟨D, dn, dc, A, n, c, h0, h1, h2, h3, h4, h5⟩ := h k x hx
  exact ⟨D, dn, dc, A, n, c, h0, h1, h2, h3, h4, h5.mono hs⟩
theorem NCellsS.to (h : NCellsS W S l xs) (ha : Fl.Alike S W W') : NCellsS W' S l xs := fun k x hx => by
  obtain ⟨D, dn, dc, A, n, c, h0, h1, h2, h3, h4, h5⟩ := h k x hx
  exact ⟨D, dn, dc, A, n, c, h0, h1, h2, h3, h4, h5.to_ ha⟩
theorem NCellsS.kc (h : NCellsS W S l xs) (hk : KeepC S W W') : NCellsS W' S l xs := fun k x hx => by
  obtain ⟨D, dn, dc, A, n, c, h0, h1, h2, h3, h4, h5⟩ := h k x hx
  exact ⟨D, dn, dc, A, n, c, h0, h1, h2, h3, h4, h5.kc hk⟩
theorem NCellsS.cells (h : NCellsS W (· < N) l xs) : NCells W N l xs := fun k x hx => by
  obtain ⟨D, dn, dc, A, n, c, h0, h1, h2, h3, h4, h5⟩ := h k x hx
  exact ⟨D, dn, dc, A, n, c, h0, h1, h2, h3, h4, h5.nv⟩

/-- Patches in a row of one's own; what they hold lies in blocks that S names. -/
def OwnT (W : World) (S : Nat → Prop) (base : Nat) (v : Value) (l : List Nm) : Prop := ∃ xs, W.ownsRow base 41 5 v l.length xs ∧ NCellsS W S l xs
theorem OwnT.own (h : OwnT W (· < N) base v l) : OwnM W N base v l := by
  obtain ⟨xs, h1, h2⟩ := h
  exact ⟨xs, h1, h2.cells⟩
theorem OwnT.mono (h : OwnT W S base v l) (hs : ∀ b, S b → T b) : OwnT W T base v l := by
  obtain ⟨xs, h1, h2⟩ := h
  exact ⟨xs, h1, h2.mono hs⟩
theorem OwnT.below (h : OwnT W S base v l) (hb : Below W.heap.size W W') : OwnT W' S base v l := by
  obtain ⟨xs, h1, h2⟩ := h
  exact ⟨xs, own_gr h1 (below_gr_row hb), h2.to (fun b _ hl => hb.block b hl)⟩
theorem OwnT.set (h : OwnT W S base v l) {b : Nat} (hb : some b ≠ v.ownBlock) (hN : ¬ S b) (j : Nat) (x : Value) : OwnT (W.setCell ⟨b, j, none⟩ x) S base v l := by
  obtain ⟨xs, h1, h2⟩ := h
  refine ⟨xs, h1.kept (grownBy_set W b j x) ?_, h2.to ((alike_set W b j x).mono fun k hk e => hN (e ▸ hk))⟩
  rcases h1.2 with ⟨rfl, _⟩ | ⟨g, cap, cur, rfl, _⟩
  · exact .inl rfl
  · exact .inr fun e => hb e.symm
theorem OwnT.plain {row : Option Nat} (h : OwnT W S base v l) (hg : W.grownBy W' row) (hr : ∀ r, row = some r → ∃ o : Obj, W.heap[r]? = some o ∧ o.isCells = false) : OwnT W' S base v l := by
  obtain ⟨xs, h1, h2⟩ := h
  refine ⟨xs, h1.kept hg ?_, h2.kc (keepC_plain hg hr)⟩
  rcases h1.2 with ⟨rfl, _⟩ | ⟨g, cap, cur, rfl, _, hgb, _⟩
  · exact .inl rfl
  · refine .inr fun e' => ?_
    obtain ⟨o, ho, hf⟩ := hr g (by simpa [Value.ownBlock] using e'.symm)
    rw [hgb] at ho; cases ho; cases hf
/-- One of a row's patches. -/
theorem OwnT.elem {g n cap k : Nat} {x : Nm} (h : OwnT W S base (.slice (some ⟨g, 0, none⟩) n cap) l) (hn : l.length = n) (hx : l[k]? = some x) :
    ∃ D dn dc A m c, W.cell? ⟨g, k * 5, none⟩ = some (.int .i64 x.id.1) ∧ W.cell? ⟨g, k * 5 + 1, none⟩ = some (.int .i64 x.id.2) ∧ W.cell? ⟨g, k * 5 + 2, none⟩ = some (.slice D dn dc) ∧ W.cell? ⟨g, k * 5 + 3, none⟩ = some (strV x.txt) ∧ W.cell? ⟨g, k * 5 + 4, none⟩ = some (.slice A m c) ∧
      (∀ j, W.frozen? ⟨g, j, none⟩ = false) ∧ NG W S D dn dc A m c x := by
  subst hn
  obtain ⟨xs, hr, hF⟩ := h
  obtain ⟨D, dn, dc, A, m, c, h0, h1, h2, h3, h4, h5⟩ := hF k x hx
  have hk : k < l.length := (List.getElem?_eq_some_iff.1 hx).1
  exact ⟨D, dn, dc, A, m, c, by rw [hr.cellAt (k * 5) (by omega)]; exact h0, by rw [hr.cellAt (k * 5 + 1) (by omega)]; exact h1, by rw [hr.cellAt (k * 5 + 2) (by omega)]; exact h2, by rw [hr.cellAt (k * 5 + 3) (by omega)]; exact h3, by rw [hr.cellAt (k * 5 + 4) (by omega)]; exact h4, fun j => hr.frozenAt _, h5⟩

theorem NCellsS.set {k : Nat} {D A : Option Addr} {dn dc n c : Nat} {y : Nm} (h : NCellsS W S l xs) (hl : xs.length = l.length * 5) (hy : NG W S D dn dc A n c y) :
    NCellsS W S (l.set k y) (((((xs.set (k * 5) (.int .i64 y.id.1)).set (k * 5 + 1) (.int .i64 y.id.2)).set (k * 5 + 2) (.slice D dn dc)).set (k * 5 + 3) (strV y.txt)).set (k * 5 + 4) (.slice A n c)) := fun p x hx => by
  by_cases hp : p = k
  · subst hp
    have hk : p < l.length := by
      have := (List.getElem?_eq_some_iff.1 hx).1
      simpa using this
    rw [List.getElem?_set_self hk] at hx
    injection hx with hx
    subst hx
    refine ⟨D, dn, dc, A, n, c, ?_, ?_, ?_, ?_, ?_, hy⟩
    · rw [List.getElem?_set_ne (by omega), List.getElem?_set_ne (by omega), List.getElem?_set_ne (by omega), List.getElem?_set_ne (by omega), List.getElem?_set_self (by omega)]
    · rw [List.getElem?_set_ne (by omega), List.getElem?_set_ne (by omega), List.getElem?_set_ne (by omega), List.getElem?_set_self (by simp; omega)]
    · rw [List.getElem?_set_ne (by omega), List.getElem?_set_ne (by omega), List.getElem?_set_self (by simp; omega)]
    · rw [List.getElem?_set_ne (by omega), List.getElem?_set_self (by simp; omega)]
    · rw [List.getElem?_set_self (by simp; omega)]
  · rw [List.getElem?_set_ne (fun e => hp e.symm)] at hx
    obtain ⟨D', dn', dc', A', n', c', h0, h1, h2, h3, h4, h5⟩ := h p x hx
    have ne : ∀ a b, a < 5 → b < 5 → k * 5 + a ≠ p * 5 + b := fun a b ha hb => by omega
    have n0 : ∀ b, b < 5 → k * 5 ≠ p * 5 + b := fun b hb => by omega
    have key : ∀ b, b < 5 → (((((xs.set (k * 5) (.int .i64 y.id.1)).set (k * 5 + 1) (.int .i64 y.id.2)).set (k * 5 + 2) (.slice D dn dc)).set (k * 5 + 3) (strV y.txt)).set (k * 5 + 4) (.slice A n c))[p * 5 + b]? = xs[p * 5 + b]? := fun b hb => by
      rw [List.getElem?_set_ne (ne 4 b (by decide) hb), List.getElem?_set_ne (ne 3 b (by decide) hb), List.getElem?_set_ne (ne 2 b (by decide) hb), List.getElem?_set_ne (ne 1 b (by decide) hb), List.getElem?_set_ne (n0 b hb)]
    exact ⟨D', dn', dc', A', n', c', (key 0 (by decide)).trans h0, (key 1 (by decide)).trans h1, (key 2 (by decide)).trans h2, (key 3 (by decide)).trans h3, (key 4 (by decide)).trans h4, h5⟩

/-- One of a row's patches stored anew. -/
theorem OwnT.store {g n cap k : Nat} {D A : Option Addr} {dn dc m c : Nat} {y : Nm} (h : OwnT W S base (.slice (some ⟨g, 0, none⟩) n cap) l) (hn : l.length = n) (hN : ¬ S g) (hy : NG W S D dn dc A m c y) :
    OwnT (((((W.setCell ⟨g, k * 5, none⟩ (.int .i64 y.id.1)).setCell ⟨g, k * 5 + 1, none⟩ (.int .i64 y.id.2)).setCell ⟨g, k * 5 + 2, none⟩ (.slice D dn dc)).setCell ⟨g, k * 5 + 3, none⟩ (strV y.txt)).setCell ⟨g, k * 5 + 4, none⟩ (.slice A m c)) S base (.slice (some ⟨g, 0, none⟩) n cap) (l.set k y) := by
  subst hn
  obtain ⟨xs, hr, hF⟩ := h
  obtain ⟨h0, _⟩ := hr.stored (k * 5) (.int .i64 y.id.1)
  obtain ⟨h1, _⟩ := h0.stored (k * 5 + 1) (.int .i64 y.id.2)
  obtain ⟨h2, _⟩ := h1.stored (k * 5 + 2) (.slice D dn dc)
  obtain ⟨h3, _⟩ := h2.stored (k * 5 + 3) (strV y.txt)
  obtain ⟨h4, _⟩ := h3.stored (k * 5 + 4) (.slice A m c)
  refine ⟨_, by rw [List.length_set]; exact h4, ?_⟩
  have al : ∀ (X : World) (p : Nat) (v : Value), Fl.Alike S X (X.setCell ⟨g, p, none⟩ v) := fun X p v => (alike_set X g p v).mono fun b hb e => hN (e ▸ hb)
  exact (((((hF.set hr.1 hy).to (al _ _ _)).to (al _ _ _)).to (al _ _ _)).to (al _ _ _)).to (al _ _ _)
end

section
variable {X w : World} {B b g : Nat} {t : TypeId} {cs : Array Value} {r : Option Nat}
theorem below_set5 (h : Below B w X) (hb : B ≤ b) (v0 v1 v2 v3 v4 : Value) : Below B w (((((X.setCell ⟨b, 0, none⟩ v0).setCell ⟨b, 1, none⟩ v1).setCell ⟨b, 2, none⟩ v2).setCell ⟨b, 3, none⟩ v3).setCell ⟨b, 4, none⟩ v4) :=
  ((((h.setCell (p := ⟨b, 0, none⟩) hb v0).setCell (p := ⟨b, 1, none⟩) hb v1).setCell (p := ⟨b, 2, none⟩) hb v2).setCell (p := ⟨b, 3, none⟩) hb v3).setCell (p := ⟨b, 4, none⟩) hb v4
theorem blk_set5 (h : Blk X b t cs) (hne : b ≠ g) (v0 v1 v2 v3 v4 : Value) : Blk (((((X.setCell ⟨g, 0, none⟩ v0).setCell ⟨g, 1, none⟩ v1).setCell ⟨g, 2, none⟩ v2).setCell ⟨g, 3, none⟩ v3).setCell ⟨g, 4, none⟩ v4) b t cs :=
  ((((h.set_ne hne 0 v0).set_ne hne 1 v1).set_ne hne 2 v2).set_ne hne 3 v3).set_ne hne 4 v4
theorem blk5 {u0 u1 u2 u3 u4 : Value} (h : Blk X b t #[u0, u1, u2, u3, u4]) (v0 v1 v2 v3 v4 : Value) : Blk (((((X.setCell ⟨b, 0, none⟩ v0).setCell ⟨b, 1, none⟩ v1).setCell ⟨b, 2, none⟩ v2).setCell ⟨b, 3, none⟩ v3).setCell ⟨b, 4, none⟩ v4) b t #[v0, v1, v2, v3, v4] := by
  have h0 : Blk (X.setCell ⟨b, 0, none⟩ v0) b t #[v0, u1, u2, u3, u4] := h.set 0 v0
  have h1 : Blk ((X.setCell ⟨b, 0, none⟩ v0).setCell ⟨b, 1, none⟩ v1) b t #[v0, v1, u2, u3, u4] := h0.set 1 v1
  have h2 : Blk (((X.setCell ⟨b, 0, none⟩ v0).setCell ⟨b, 1, none⟩ v1).setCell ⟨b, 2, none⟩ v2) b t #[v0, v1, v2, u3, u4] := h1.set 2 v2
  have h3 : Blk ((((X.setCell ⟨b, 0, none⟩ v0).setCell ⟨b, 1, none⟩ v1).setCell ⟨b, 2, none⟩ v2).setCell ⟨b, 3, none⟩ v3) b t #[v0, v1, v2, v3, u4] := h2.set 3 v3
  exact h3.set 4 v4
theorem alike_set5 (X : World) (g : Nat) (v0 v1 v2 v3 v4 : Value) : Fl.Alike (· ≠ g) X (((((X.setCell ⟨g, 0, none⟩ v0).setCell ⟨g, 1, none⟩ v1).setCell ⟨g, 2, none⟩ v2).setCell ⟨g, 3, none⟩ v3).setCell ⟨g, 4, none⟩ v4) := fun i h hl => by
  have al : ∀ (X : World) (j : Nat) (v : Value), i < X.heap.size → (X.setCell ⟨g, j, none⟩ v).heap[i]? = X.heap[i]? := fun X j v hx => alike_set X g j v i h hx
  rw [al _ _ _ (by simp; exact hl), al _ _ _ (by simp; exact hl), al _ _ _ (by simp; exact hl), al _ _ _ (by simp; exact hl), al _ _ _ hl]
end

/-- The cells of a patch. -/
abbrev nmC (x : Nm) (D : Option Addr) (dn dc : Nat) (A : Option Addr) (n c : Nat) : Array Value := #[.int .i64 x.id.1, .int .i64 x.id.2, .slice D dn dc, strV x.txt, .slice A n c]
/-- A patch that has nothing. -/
def noN : Nm := ⟨(0, 0), [], [], []⟩
theorem ng_no (W : World) (S : Nat → Prop) : NG W S none 0 0 none 0 0 noN := ⟨rfl, Nat.le_refl _, by decide, .inl rfl, by decide, rfl, Nat.le_refl _, by decide, .inl rfl⟩

/-- The cells of m patches can be read. -/
def Cells5 (W : World) (A : Option Addr) (m : Nat) : Prop := ∀ i, i < m → ∃ a v0 v1 v2 v3 v4, A = some a ∧ W.cell? (a.add (i * 5)) = some v0 ∧ W.cell? ⟨(a.add (i * 5)).block, (a.add (i * 5)).off + 1, none⟩ = some v1 ∧ W.cell? ⟨(a.add (i * 5)).block, (a.add (i * 5)).off + 2, none⟩ = some v2 ∧
  W.cell? ⟨(a.add (i * 5)).block, (a.add (i * 5)).off + 3, none⟩ = some v3 ∧ W.cell? ⟨(a.add (i * 5)).block, (a.add (i * 5)).off + 4, none⟩ = some v4
theorem Cells5.kc {W W' : World} {A : Option Addr} {m : Nat} (h : Cells5 W A m) (hk : KeepC (fun _ => True) W W') : Cells5 W' A m := fun i hi => by
  obtain ⟨a, v0, v1, v2, v3, v4, e, h0, h1, h2, h3, h4⟩ := h i hi
  exact ⟨a, v0, v1, v2, v3, v4, e, hk.cell trivial h0, hk.cell trivial h1, hk.cell trivial h2, hk.cell trivial h3, hk.cell trivial h4⟩
end Tg
end Go.Proofs.YtfnhjflocfmcoaaGreat

set_option maxRecDepth 100000
namespace Go.Proofs.YtfnhjflocfmcoaaGreat
namespace Bm
open Tx Sq Hk Tr Pr Fl Pn
set_option linter.unusedVariables false

/-- A change's tag: the patch's id, and its own number. -/
abbrev Tag : Type := Id_ × Nat
/-- A birth: of a change, and which of its lines. -/
abbrev Bi : Type := Tag × Nat
/-- Births by names. -/
abbrev OR : Type := List (List UInt8 × List Bi)
abbrev Tc : Type := Tag × Ch
def births (a : Tag) (n : Nat) : List Bi := (List.range n).map fun k => (a, k)
theorem births_len (a : Tag) (n : Nat) : (births a n).length = n := by simp [births]
theorem births_at {a : Tag} {n k : Nat} (h : k < n) : (births a n)[k]? = some (a, k) := by simp [births, h]
/-- What a file's births become by a change of lines. -/
def born (a : Tag) (p : Ch) (m : List Bi) : List Bi := swp m p.h.pos.toNat p.h.old.length (births a p.h.new.length)
/-- What births become by a change that can be done. -/
def oneB (o : OR) (a : Tag) (p : Ch) : OR :=
  if p.k = 0 then put lt o p.nm [] else if p.k = 1 then del o p.nm else if p.k = 2 then put lt (del o p.nm) p.to ((get o p.nm).getD []) else put lt o p.nm (born a p ((get o p.nm).getD []))
/-- Does a change name a file? -/
def touch (p : Ch) (n : List UInt8) : Prop := p.nm = n ∨ (p.k = 2 ∧ p.to = n)
instance (p : Ch) (n : List UInt8) : Decidable (touch p n) := by unfold touch; infer_instance
/-- What a file that is named has then, where the change's own file had m. -/
def val (a : Tag) (p : Ch) (m : Option (List Bi)) (n : List UInt8) : Option (List Bi) :=
  if p.k = 0 then some [] else if p.k = 1 then none else if p.k = 2 then (if p.to = n then some (m.getD []) else none) else some (born a p (m.getD []))
theorem oneB_up {o : OR} {a : Tag} {p : Ch} (ho : Up lt o) : Up lt (oneB o a p) := by
  unfold oneB
  split
  · exact up_put lin ho _ _
  · split
    · exact up_del ho _
    · split
      · exact up_put lin (up_del ho _) _ _
      · exact up_put lin ho _ _
theorem oneB_get {o : OR} {a : Tag} {p : Ch} (ho : Up lt o) (n : List UInt8) : get (oneB o a p) n = if touch p n then val a p (get o p.nm) n else get o n := by
  unfold oneB val
  by_cases h0 : p.k = 0
  · rw [if_pos h0, if_pos h0, get_put]
    by_cases hn : p.nm = n
    · rw [if_pos hn, if_pos (show touch p n from .inl hn)]
    · rw [if_neg hn, if_neg (show ¬ touch p n from fun h => by rcases h with h | h; exact hn h; omega)]
  · rw [if_neg h0, if_neg h0]
    by_cases h1 : p.k = 1
    · rw [if_pos h1, if_pos h1, get_del lin ho]
      by_cases hn : p.nm = n
      · rw [if_pos hn, if_pos (show touch p n from .inl hn)]
      · rw [if_neg hn, if_neg (show ¬ touch p n from fun h => by rcases h with h | h; exact hn h; omega)]
    · rw [if_neg h1, if_neg h1]
      by_cases h2 : p.k = 2
      · rw [if_pos h2, if_pos h2, get_put, get_del lin ho]
        by_cases ht : p.to = n
        · rw [if_pos ht, if_pos (show touch p n from .inr ⟨h2, ht⟩), if_pos ht]
        · rw [if_neg ht, if_neg ht]
          by_cases hn : p.nm = n
          · rw [if_pos hn, if_pos (show touch p n from .inl hn)]
          · rw [if_neg hn, if_neg (show ¬ touch p n from fun h => by rcases h with h | h; exact hn h; exact ht h.2)]
      · rw [if_neg h2, if_neg h2, get_put]
        by_cases hn : p.nm = n
        · rw [if_pos hn, if_pos (show touch p n from .inl hn)]
        · rw [if_neg hn, if_neg (show ¬ touch p n from fun h => by rcases h with h | h; exact hn h; exact h2 h.1)]

/-- As many births as lines, file by file. -/
structure Like (t : TR) (o : OR) : Prop where
  ut : Up lt t
  uo : Up lt o
  len : ∀ n, (get o n).map List.length = (get t n).map List.length
theorem like_none {t : TR} {o : OR} {n : List UInt8} (h : Like t o) (hg : get t n = none) : get o n = none := by
  have := h.len n
  rw [hg] at this
  simpa using this
theorem like_some {t : TR} {o : OR} {n : List UInt8} {l : List (List UInt8)} (h : Like t o) (hg : get t n = some l) : ∃ m, get o n = some m ∧ m.length = l.length := by
  have := h.len n
  rw [hg] at this
  cases hm : get o n with
  | none => rw [hm] at this; cases this
  | some m => rw [hm] at this; exact ⟨m, rfl, by simpa using this⟩
theorem swp_len {α : Type} {l now : List α} {i n : Nat} (h : i + n ≤ l.length) : (swp l i n now).length = l.length - n + now.length := by
  unfold swp
  simp only [List.length_append, List.length_take, List.length_drop]
  omega
/-- Where a change of lines can be done its lines lie within the file's. -/
theorem line_in {l : List (List UInt8)} {p : Ch} (hm : mayP p = true) (hk : p.k = 3 ∨ p.k = 4) (he : lineE l p = 0) : 0 ≤ p.h.pos ∧ p.h.pos.toNat + p.h.old.length ≤ l.length ∧ (lineL l p).length = l.length - p.h.old.length + p.h.new.length := by
  obtain ⟨_, _, hh, h4⟩ := may_h hm hk
  unfold lineE lineL at *
  rcases hk with hk | hk
  · rw [if_pos hk] at he ⊢
    have hd := apply_done he
    have h1 := has_len (done_some hd).1
    refine ⟨h1.1, h1.2, ?_⟩
    rw [(done_some hd).2, swp_len h1.2]
  · have h3 : ¬ p.k = 3 := by omega
    rw [if_neg h3] at he ⊢
    have e : l = p.h.old := by
      by_cases e : l = p.h.old
      · exact e
      · rw [if_neg e] at he; exact absurd he (by decide)
    rw [h4 hk, e]
    exact ⟨by omega, by simp, by omega⟩
theorem like_do {t u : TR} {o : OR} {a : Tag} {p : Ch} (h : Like t o) (hd : doP t p = (0, u)) : Like u (oneB o a p) := by
  refine ⟨doP_up h.ut hd, oneB_up h.uo, fun n => ?_⟩
  rw [oneB_get h.uo]
  obtain ⟨hm, hc⟩ := doP_cases hd
  unfold val
  rcases hc with ⟨hk, hg, rfl⟩ | ⟨hk, hg, rfl⟩ | ⟨hk, l, hg, ht, rfl⟩ | ⟨hk, l, hg, he, rfl⟩
  · rw [get_put]
    by_cases hn : p.nm = n
    · rw [if_pos hn, if_pos (show touch p n from .inl hn), if_pos hk]; rfl
    · rw [if_neg hn, if_neg (show ¬ touch p n from fun h => by rcases h with h | h; exact hn h; omega)]; exact h.len n
  · rw [get_del lin h.ut]
    by_cases hn : p.nm = n
    · rw [if_pos hn, if_pos (show touch p n from .inl hn), if_neg (by omega), if_pos hk]; rfl
    · rw [if_neg hn, if_neg (show ¬ touch p n from fun h => by rcases h with h | h; exact hn h; omega)]; exact h.len n
  · obtain ⟨m, hmo, hml⟩ := like_some h hg
    rw [get_put, get_del lin h.ut]
    by_cases hto : p.to = n
    · rw [if_pos hto, if_pos (show touch p n from .inr ⟨hk, hto⟩), if_neg (by omega), if_neg (by omega), if_pos hk, if_pos hto, hmo]
      simp [hml]
    · rw [if_neg hto]
      by_cases hn : p.nm = n
      · rw [if_pos hn, if_pos (show touch p n from .inl hn), if_neg (by omega), if_neg (by omega), if_pos hk, if_neg hto]; rfl
      · rw [if_neg hn, if_neg (show ¬ touch p n from fun h => by rcases h with h | h; exact hn h; exact hto h.2), if_neg hto]; exact h.len n
  · obtain ⟨m, hmo, hml⟩ := like_some h hg
    obtain ⟨_, h2, h3⟩ := line_in hm hk he
    rw [get_put]
    by_cases hn : p.nm = n
    · rw [if_pos hn, if_pos (show touch p n from .inl hn), if_neg (by omega), if_neg (by omega), if_neg (by omega), hmo]
      simp only [Option.getD_some, Option.map_some]
      unfold born
      rw [swp_len (by omega), births_len, h3, hml]
    · rw [if_neg hn, if_neg (show ¬ touch p n from fun h => by rcases h with h | h; exact hn h; omega)]; exact h.len n

/-- Two changes of lines of one file that pass: the births are the same. -/
theorem born_both {m : List Bi} {a b : Tag} {p q : Ch} {u v : HU} (h : Sw.passH p.h q.h = some (u, v)) (hp : p.h.pos.toNat + p.h.old.length ≤ m.length) (hq : q.h.pos.toNat + q.h.old.length ≤ (born a p m).length) :
    born b q (born a p m) = born a ⟨p.k, p.nm, p.to, v⟩ (born b ⟨q.k, q.nm, q.to, u⟩ m) := by
  obtain ⟨mp, mq, hpass, _, _⟩ := Sw.passH_may h
  have p0 := (Sw.mayH_pos mp).1
  have q0 := (Sw.mayH_pos mq).1
  obtain ⟨c1, c2, c3, c4, c5⟩ := Sw.pass_moves hpass
  have hs : ∀ {l : List Bi} {i : Int} {n : Nat}, 0 ≤ i → i.toNat + n ≤ l.length → has l i ((l.drop i.toNat).take n) = true ∧ ((l.drop i.toNat).take n).length = n := fun {l i n} h0 hn => by
    have hl : ((l.drop i.toNat).take n).length = n := by rw [List.length_take, List.length_drop]; omega
    refine ⟨?_, hl⟩
    unfold has
    rw [decide_eq_true_eq, hl]
    exact ⟨h0, by omega, rfl⟩
  obtain ⟨s1, s2⟩ := hs p0 hp
  obtain ⟨s3, s4⟩ := hs q0 hq
  let P : Hu Bi := ⟨p.h.pos, (m.drop p.h.pos.toNat).take p.h.old.length, births a p.h.new.length⟩
  let Q : Hu Bi := ⟨q.h.pos, ((born a p m).drop q.h.pos.toNat).take q.h.old.length, births b q.h.new.length⟩
  have d1 : done m P = some (born a p m) := by
    rw [done_yes (h := P) s1]
    show some (swp m p.h.pos.toNat _ (births a p.h.new.length)) = some (born a p m)
    rw [s2]; rfl
  have d2 : done (born a p m) Q = some (born b q (born a p m)) := by
    rw [done_yes (h := Q) s3]
    show some (swp (born a p m) q.h.pos.toNat _ (births b q.h.new.length)) = some (born b q (born a p m))
    rw [s4]; rfl
  have e1 : P.new.length = p.h.new.length := births_len _ _
  have e2 : Q.new.length = q.h.new.length := births_len _ _
  obtain ⟨X, Y, hXY, hX1, hX2, hX3, hY1, hY2, hY3⟩ : ∃ X Y, Sw.pass P Q = some (X, Y) ∧ X.pos = u.pos ∧ X.old.length = u.old.length ∧ X.new = births b u.new.length ∧ Y.pos = v.pos ∧ Y.old.length = v.old.length ∧ Y.new = births a v.new.length := by
    rcases Sw.pass_cases hpass with ⟨k1, rfl, rfl⟩ | ⟨k1, rfl, rfl⟩
    · refine ⟨_, _, Sw.pass_ahead (by rw [e1]; exact k1), ?_, s4, rfl, rfl, s2, rfl⟩
      show q.h.pos - (P.new.length : Int) + (P.old.length : Int) = _
      rw [e1, show P.old.length = p.h.old.length from s2]; rfl
    · refine ⟨_, _, Sw.pass_behind (by rw [show Q.old.length = q.h.old.length from s4]; exact k1), rfl, s4, rfl, ?_, s2, rfl⟩
      show p.h.pos - (Q.old.length : Int) + (Q.new.length : Int) = _
      rw [e2, show Q.old.length = q.h.old.length from s4]; rfl
  obtain ⟨k, f1, f2⟩ := Sw.pass_same hXY d1 d2
  obtain ⟨_, rfl⟩ := done_some f1
  obtain ⟨_, g2⟩ := done_some f2
  rw [g2]
  unfold born
  rw [hX1, hX2, hX3, hY1, hY2, hY3]

/-- What trees, and births, become by a tagged change. -/
def dB (s : TR × OR) (c : Tc) : Option (TR × OR) := if (doP s.1 c.2).1 = 0 then some ((doP s.1 c.2).2, oneB s.2 c.1 c.2) else none
theorem dB_some {s : TR × OR} {c : Tc} {u : TR} {o : OR} : dB s c = some (u, o) ↔ doP s.1 c.2 = (0, u) ∧ o = oneB s.2 c.1 c.2 := by
  unfold dB
  constructor
  · intro h
    split at h
    · rename_i h0
      injection h with h
      injection h with h1 h2
      exact ⟨Prod.ext h0 h1, h2.symm⟩
    · cases h
  · rintro ⟨h1, rfl⟩
    rw [h1, if_pos rfl]
def passB (c d : Tc) : Option (Tc × Tc) := (passP c.2 d.2).map fun z => ((d.1, z.1), (c.1, z.2))
def LikeS (s : TR × OR) : Prop := Like s.1 s.2
theorem dB_like {s s' : TR × OR} {c : Tc} (h : LikeS s) (hd : dB s c = some s') : LikeS s' := by
  obtain ⟨h1, h2⟩ := dB_some.1 (show dB s c = some (s'.1, s'.2) from hd)
  unfold LikeS
  rw [h2]
  exact like_do h h1
theorem touch_no {p q : Ch} (h : Apart p q) : ¬ touch p q.nm ∧ ¬ touch q p.nm ∧ ∀ n, touch p n → touch q n → False := by
  unfold touch
  refine ⟨?_, ?_, ?_⟩
  · rintro (h1 | ⟨h1, h2⟩)
    · exact h.nn h1
    · exact h.tn h1 h2
  · rintro (h1 | ⟨h1, h2⟩)
    · exact h.nn h1.symm
    · exact h.nt h1 h2.symm
  · rintro n (h1 | ⟨h1, h2⟩) (h3 | ⟨h3, h4⟩)
    · exact h.nn (h1.trans h3.symm)
    · exact h.nt h3 (h1.trans h4.symm)
    · exact h.tn h1 (h2.trans h3.symm)
    · exact h.tt h1 h3 (h2.trans h4.symm)
/-- Where two pass one another no birth changes. -/
theorem dB_same {s1 s2 s3 : TR × OR} {c d x y : Tc} (h : LikeS s1) (hp : passB c d = some (x, y)) (h1 : dB s1 c = some s2) (h2 : dB s2 d = some s3) : ∃ w, dB s1 x = some w ∧ dB w y = some s3 := by
  obtain ⟨a, p⟩ := c
  obtain ⟨b, q⟩ := d
  obtain ⟨t, o⟩ := s1
  obtain ⟨t2, o2⟩ := s2
  obtain ⟨t3, o3⟩ := s3
  obtain ⟨g1, rfl⟩ := dB_some.1 h1
  obtain ⟨g2, rfl⟩ := dB_some.1 h2
  unfold passB at hp
  cases hz : passP p q with
  | none => rw [hz] at hp; cases hp
  | some z =>
    obtain ⟨x', y'⟩ := z
    rw [hz] at hp
    injection hp with hp
    injection hp with e1 e2
    subst e1 e2
    dsimp only at g1 g2
    have hL : Like t o := h
    have hL2 : Like t2 (oneB o a p) := like_do hL g1
    obtain ⟨w, g3, g4⟩ := passP_same hL.ut hz g1 g2
    refine ⟨(w, oneB o b x'), dB_some.2 ⟨g3, rfl⟩, dB_some.2 ⟨g4, ?_⟩⟩
    dsimp only
    have hL3 : Like w (oneB o b x') := like_do hL g3
    refine up_ext lin (oneB_up hL2.uo) (oneB_up hL3.uo) fun n => ?_
    obtain ⟨mp, mq, wy⟩ := passP_way hz
    rw [oneB_get hL2.uo, oneB_get hL3.uo, oneB_get hL.uo, oneB_get hL.uo, oneB_get hL.uo, oneB_get hL.uo]
    cases wy with
    | apart ap =>
      obtain ⟨n1, n2, n3⟩ := touch_no ap
      rw [if_neg n1, if_neg n2]
      by_cases tq : touch q n
      · rw [if_pos tq]
        by_cases tp : touch p n
        · exact absurd (n3 n tp tq) id
        · rw [if_neg tp, if_pos tq]
      · rw [if_neg tq]
        by_cases tp : touch p n
        · rw [if_pos tp, if_pos tp]
        · rw [if_neg tp, if_neg tp, if_neg tq]
    | both kp kq hn u v hh =>
      obtain ⟨_, cc⟩ := doP_cases g1
      obtain ⟨l, hg, he, rfl⟩ : ∃ l, get t p.nm = some l ∧ lineE l p = 0 ∧ t2 = put lt t p.nm (lineL l p) := by
        rcases cc with ⟨hk, _⟩ | ⟨hk, _⟩ | ⟨hk, _⟩ | ⟨_, h⟩
        · omega
        · omega
        · omega
        · exact h
      obtain ⟨_, c2⟩ := doP_cases g2
      obtain ⟨l2, hg2, he2, rfl⟩ : ∃ l2, get (put lt t p.nm (lineL l p)) q.nm = some l2 ∧ lineE l2 q = 0 ∧ t3 = put lt (put lt t p.nm (lineL l p)) q.nm (lineL l2 q) := by
        rcases c2 with ⟨hk, _⟩ | ⟨hk, _⟩ | ⟨hk, _⟩ | ⟨_, h⟩
        · omega
        · omega
        · omega
        · exact h
      obtain ⟨m, hm, hml⟩ := like_some hL hg
      obtain ⟨_, i1, _⟩ := line_in mp (.inl kp) he
      have tp : touch p q.nm := .inl hn
      have hb : get (oneB o a p) q.nm = some (born a p m) := by
        rw [oneB_get hL.uo, if_pos tp]
        unfold val
        rw [if_neg (by omega), if_neg (by omega), if_neg (by omega), hm]; rfl
      obtain ⟨m2, hm2, hml2⟩ := like_some hL2 hg2
      rw [hb] at hm2
      injection hm2 with hm2
      subst hm2
      obtain ⟨_, i2, _⟩ := line_in mq (.inl kq) he2
      have key := born_both (b := b) hh (a := a) (m := m) (by omega) (by omega)
      have tx : touch ⟨q.k, q.nm, q.to, u⟩ p.nm := .inl hn.symm
      rw [if_pos tp]
      have ty : ∀ n, touch q n ↔ touch p n := fun n => by
        unfold touch
        constructor
        · rintro (h | ⟨h, _⟩)
          · exact .inl (hn.trans h)
          · omega
        · rintro (h | ⟨h, _⟩)
          · exact .inl (hn.symm.trans h)
          · omega
      have tx' : ∀ n, touch ⟨q.k, q.nm, q.to, u⟩ n ↔ touch q n := fun n => Iff.rfl
      have ty' : ∀ n, touch ⟨p.k, p.nm, p.to, v⟩ n ↔ touch p n := fun n => Iff.rfl
      by_cases tn : touch p n
      · rw [if_pos ((ty n).2 tn), if_pos ((ty' n).2 tn), if_pos tx]
        unfold val
        simp only [kp, kq, hm]
        simp only [show ¬ (3 : Int) = 0 by decide, show ¬ (3 : Int) = 1 by decide, show ¬ (3 : Int) = 2 by decide, if_false, Option.getD_some]
        rw [← hn, hm]
        exact congrArg some key
      · rw [if_neg (fun h => tn ((ty n).1 h)), if_neg tn, if_neg (fun h => tn ((ty' n).1 h)), if_neg (fun h => tn ((ty n).1 ((tx' n).1 h)))]
    | out kp kq hn =>
      have hne := (may_2 mp kp).2.2
      have tp : touch p q.nm := .inr ⟨kp, hn.symm⟩
      have tx : touch ⟨q.k, p.nm, q.to, q.h⟩ p.nm := .inl rfl
      rw [if_pos tp, if_pos tx]
      have q0 : ¬ q.k = 0 := by omega
      have q1 : ¬ q.k = 1 := by omega
      have q2 : ¬ q.k = 2 := by omega
      by_cases e1 : p.to = n
      · have t1 : touch q n := .inl (hn.trans e1)
        have t2 : touch p n := .inr ⟨kp, e1⟩
        rw [if_pos t1, if_pos t2]
        unfold val born
        simp only [kp, q0, q1, q2, e1, hn, show ¬ (2 : Int) = 0 by decide, show ¬ (2 : Int) = 1 by decide, if_true, if_false, Option.getD_some]
      · have t1 : ¬ touch q n := fun h => by
          rcases h with h | h
          · exact e1 (hn.symm.trans h)
          · exact q2 h.1
        rw [if_neg t1]
        by_cases e2 : p.nm = n
        · have t2 : touch p n := .inl e2
          rw [if_pos t2, if_pos t2]
          unfold val
          simp only [kp, e1, show ¬ (2 : Int) = 0 by decide, show ¬ (2 : Int) = 1 by decide, if_true, if_false]
        · have t2 : ¬ touch p n := fun h => by
            rcases h with h | h
            · exact e2 h
            · exact e1 h.2
          have t3 : ¬ touch ⟨q.k, p.nm, q.to, q.h⟩ n := fun h => by
            rcases h with h | h
            · exact e2 h
            · exact q2 h.1
          rw [if_neg t2, if_neg t2, if_neg t3]
    | into kq kp hn =>
      have hne := (may_2 mq kq).2.2
      have tp : touch p q.nm := .inl hn
      have tz : touch q q.to := .inr ⟨kq, rfl⟩
      have p0 : ¬ p.k = 0 := by omega
      have p1 : ¬ p.k = 1 := by omega
      have p2 : ¬ p.k = 2 := by omega
      rw [if_pos tp, if_pos tz]
      by_cases e1 : q.to = n
      · have t1 : touch q n := .inr ⟨kq, e1⟩
        have t2 : touch ⟨p.k, q.to, p.to, p.h⟩ n := .inl e1
        rw [if_pos t1, if_pos t2]
        unfold val born
        simp only [kq, p0, p1, p2, e1, hn, show ¬ (2 : Int) = 0 by decide, show ¬ (2 : Int) = 1 by decide, if_true, if_false, Option.getD_some]
      · have t2 : ¬ touch ⟨p.k, q.to, p.to, p.h⟩ n := fun h => by
          rcases h with h | h
          · exact e1 h
          · exact p2 h.1
        rw [if_neg t2]
        by_cases e2 : q.nm = n
        · have t1 : touch q n := .inl e2
          rw [if_pos t1, if_pos t1]
          unfold val
          simp only [kq, e1, show ¬ (2 : Int) = 0 by decide, show ¬ (2 : Int) = 1 by decide, if_true, if_false]
        · have t1 : ¬ touch q n := fun h => by
            rcases h with h | h
            · exact e2 h
            · exact e1 h.2
          have t3 : ¬ touch p n := fun h => by
            rcases h with h | h
            · exact e2 (hn.symm.trans h)
            · exact p2 h.1
          rw [if_neg t1, if_neg t1, if_neg t3]

def tagL (i : Id_) : Nat → List Ch → List Tc
  | _, [] => []
  | k, p :: l => ((i, k), p) :: tagL i (k + 1) l
def tags (i : Id_) : Nat → Nat → List Tag
  | _, 0 => []
  | k, n + 1 => (i, k) :: tags i (k + 1) n
theorem tags_len (i : Id_) : ∀ (n k : Nat), (tags i k n).length = n
  | 0, _ => rfl
  | n + 1, k => by rw [tags, List.length_cons, tags_len i n (k + 1)]
theorem tagL_zip (i : Id_) : ∀ (l : List Ch) (k : Nat), tagL i k l = (tags i k l.length).zip l
  | [], _ => rfl
  | p :: l, k => by rw [tagL, List.length_cons, tags, List.zip_cons_cons, tagL_zip i l (k + 1)]
theorem tagL_snd (i : Id_) : ∀ (l : List Ch) (k : Nat), (tagL i k l).map (·.2) = l
  | [], _ => rfl
  | p :: l, k => by rw [tagL, List.map_cons, tagL_snd i l (k + 1)]
theorem tagL_mem {i : Id_} : ∀ {l : List Ch} {k : Nat} {c : Tc}, c ∈ tagL i k l → c.1.1 = i ∧ k ≤ c.1.2 ∧ l[c.1.2 - k]? = some c.2
  | [], k, c, h => by cases h
  | p :: l, k, c, h => by
    rcases List.mem_cons.1 (show c ∈ ((i, k), p) :: tagL i (k + 1) l from h) with rfl | h
    · exact ⟨rfl, Nat.le_refl _, by simp⟩
    · obtain ⟨h1, h2, h3⟩ := tagL_mem h
      refine ⟨h1, by omega, ?_⟩
      rw [show c.1.2 - k = (c.1.2 - (k + 1)) + 1 by omega]
      simpa using h3
abbrev tagN (p : Nm) : List Tc := tagL p.id 0 p.l
def tagA (l : List Nm) : List Tc := l.flatMap tagN
theorem tagA_app (a b : List Nm) : tagA (a ++ b) = tagA a ++ tagA b := List.flatMap_append
theorem tagA_cons (p : Nm) (l : List Nm) : tagA (p :: l) = tagN p ++ tagA l := List.flatMap_cons
theorem tagA_snd : ∀ (l : List Nm), (tagA l).map (·.2) = allN l
  | [] => rfl
  | p :: l => by rw [tagA_cons, List.map_append, tagA_snd l, tagL_snd, allN_cons]
theorem one_B : ∀ {A : List Tag} {P P' : List Ch} {b : Tag} {q x : Ch}, A.length = P.length → one passP P q = some (x, P') → one passB (A.zip P) (b, q) = some ((b, x), A.zip P')
  | [], [], P', b, q, x, hl, h => by
    injection h with h
    injection h with h1 h2
    subst h1 h2
    rfl
  | a :: A, [], P', b, q, x, hl, h => by simp at hl
  | [], p :: P, P', b, q, x, hl, h => by simp at hl
  | a :: A, p :: P, P', b, q, x, hl, h => by
    obtain ⟨q1, a1, z, h1, h2, rfl⟩ := one_cons_inv passP h
    have ih := one_B (b := b) (A := A) (by simpa using hl) h1
    rw [List.zip_cons_cons, List.zip_cons_cons]
    exact one_cons passB ih (by unfold passB; rw [h2]; rfl)
theorem passL_B : ∀ {B : List Tag} {A : List Tag} {P Q X Y : List Ch}, A.length = P.length → B.length = Q.length → passF P Q = some (X, Y) → passL passB (A.zip P) (B.zip Q) = some (B.zip X, A.zip Y)
  | [], A, P, [], X, Y, ha, hb, h => by
    rw [show passF P [] = some ([], P) from passL_nil passP P] at h
    injection h with h
    injection h with h1 h2
    subst h1 h2
    exact passL_nil passB _
  | b :: B, A, P, [], X, Y, ha, hb, h => by simp at hb
  | [], A, P, q :: Q, X, Y, ha, hb, h => by simp at hb
  | b :: B, A, P, q :: Q, X, Y, ha, hb, h => by
    obtain ⟨q1, P1, X1, h1, h2, rfl⟩ := passL_cons_inv passP h
    have i1 := one_B (b := b) ha h1
    have i2 := passL_B (B := B) (A := A) (by rw [ha, one_len passP h1]) (by simpa using hb) h2
    rw [List.zip_cons_cons, List.zip_cons_cons]
    exact passL_cons passB i1 i2
/-- What all become by patches. -/
abbrev orgN (s : TR × OR) (l : List Nm) : Option (TR × OR) := doL dB s (tagA l)
theorem doB_tree : ∀ {T : List Tc} {s u : TR × OR}, doL dB s T = some u → doL dP s.1 (T.map (·.2)) = some u.1
  | [], s, u, h => by injection h with h; rw [← h]; rfl
  | c :: T, s, u, h => by
    obtain ⟨v, h1, h2⟩ := doL_cons_inv dB h
    obtain ⟨g1, _⟩ := dB_some.1 (show dB s c = some (v.1, v.2) from h1)
    rw [List.map_cons, doL_cons dP (show dP s.1 c.2 = some v.1 by unfold dP; rw [g1]; rfl)]
    exact doB_tree h2
theorem doB_of : ∀ {T : List Tc} {s : TR × OR} {u : TR}, doL dP s.1 (T.map (·.2)) = some u → ∃ o, doL dB s T = some (u, o)
  | [], s, u, h => by injection h with h; exact ⟨s.2, by rw [← h]; rfl⟩
  | c :: T, s, u, h => by
    obtain ⟨v, h1, h2⟩ := doL_cons_inv dP h
    have g1 : doP s.1 c.2 = (0, v) := by
      unfold dP at h1
      by_cases h0 : (doP s.1 c.2).1 = 0
      · rw [if_pos h0] at h1
        injection h1 with h1
        exact Prod.ext h0 h1
      · rw [if_neg h0] at h1; cases h1
    have h3 : dB s c = some (v, oneB s.2 c.1 c.2) := dB_some.2 ⟨g1, rfl⟩
    obtain ⟨o, h4⟩ := doB_of (s := (v, oneB s.2 c.1 c.2)) h2
    exact ⟨o, by rw [doL_cons dB h3]; exact h4⟩
theorem org_tree {s u : TR × OR} {l : List Nm} (h : orgN s l = some u) : doN s.1 l = (0, u.1) := by
  have := doB_tree h
  rw [tagA_snd] at this
  exact doF_some.1 this
theorem org_of {s : TR × OR} {u : TR} {l : List Nm} (h : doN s.1 l = (0, u)) : ∃ o, orgN s l = some (u, o) := by
  refine doB_of ?_
  rw [tagA_snd]
  exact doF_some.2 h
theorem doB_like {T : List Tc} {s u : TR × OR} (hs : LikeS s) (h : doL dB s T = some u) : LikeS u := doL_inv dB LikeS (fun hi hd => dB_like hi hd) hs h
theorem like_nil : LikeS ([], []) := ⟨List.Pairwise.nil, List.Pairwise.nil, fun n => rfl⟩
/-- Where two patches pass one another no birth changes. -/
theorem org_stays {s u : TR × OR} {p q x y : Nm} (hs : LikeS s) (h : passN p q = some (x, y)) (hd : orgN s [p, q] = some u) : orgN s [x, y] = some u := by
  obtain ⟨_, hf, ⟨e1, _, _⟩, e2, _, _⟩ := passN_inv h
  obtain ⟨l1, l2⟩ := passL_len passP hf
  have hb := passL_B (A := tags p.id 0 p.l.length) (B := tags q.id 0 q.l.length) (tags_len _ _ _) (tags_len _ _ _) hf
  unfold orgN at hd ⊢
  have t2 : ∀ a b : Nm, tagA [a, b] = tagN a ++ tagN b := fun a b => by rw [tagA_cons, tagA_cons]; show tagN a ++ (tagN b ++ []) = _; rw [List.append_nil]
  rw [t2] at hd ⊢
  rw [← tagL_zip, ← tagL_zip] at hb
  have ex : (tags q.id 0 q.l.length).zip x.l = tagN x := by show _ = tagL x.id 0 x.l; rw [tagL_zip, e1, l1]
  have ey : (tags p.id 0 p.l.length).zip y.l = tagN y := by show _ = tagL y.id 0 y.l; rw [tagL_zip, e2, l2]
  rw [ex, ey] at hb
  rw [doL_app] at hd
  cases h1 : doL dB s (tagN p) with
  | none => rw [h1] at hd; cases hd
  | some v =>
    rw [h1] at hd
    obtain ⟨w, g1, g2⟩ := passL_same passB dB LikeS (fun hi hd => dB_like hi hd) (fun hi hp d1 d2 => dB_same hi hp d1 d2) hs hb h1 hd
    rw [doL_app, g1]
    exact g2
theorem swp_at {α : Type} {l now : List α} {i n : Nat} (h : i + n ≤ l.length) (k : Nat) : (swp l i n now)[k]? = if k < i then l[k]? else if k < i + now.length then now[k - i]? else l[k - now.length + n]? := by
  unfold swp
  have hi : (l.take i).length = i := by rw [List.length_take]; omega
  by_cases h1 : k < i
  · rw [if_pos h1, List.getElem?_append_left (by omega), List.getElem?_take, if_pos h1]
  · rw [if_neg h1, List.getElem?_append_right (by omega), hi]
    by_cases h2 : k < i + now.length
    · rw [if_pos h2, List.getElem?_append_left (by omega)]
    · rw [if_neg h2, List.getElem?_append_right (by omega), List.getElem?_drop]
      congr 1
      omega
theorem lineL_swp {l : List (List UInt8)} {p : Ch} (hm : mayP p = true) (hk : p.k = 3 ∨ p.k = 4) (he : lineE l p = 0) : lineL l p = swp l p.h.pos.toNat p.h.old.length p.h.new := by
  obtain ⟨_, _, hh, h4⟩ := may_h hm hk
  unfold lineE lineL at *
  rcases hk with hk | hk
  · rw [if_pos hk] at he ⊢
    exact (done_some (apply_done he)).2
  · have h3 : ¬ p.k = 3 := by omega
    rw [if_neg h3] at he ⊢
    have e : l = p.h.old := by
      by_cases e : l = p.h.old
      · exact e
      · rw [if_neg e] at he; exact absurd he (by decide)
    rw [h4 hk, e]
    unfold swp
    simp
/-- Of the tagged changes T. -/
def Src (T : List Tc) (s : TR × OR) : Prop := ∀ (n : List UInt8) ls bs, get s.1 n = some ls → get s.2 n = some bs → ∀ (k : Nat) b, bs[k]? = some b → ∃ p, (b.1, p) ∈ T ∧ p.h.new[b.2]? = ls[k]? ∧ b.2 < p.h.new.length
theorem src_do {T : List Tc} {s u : TR × OR} {c : Tc} (hs : LikeS s) (h : Src T s) (hd : dB s c = some u) : Src (T ++ [c]) u := by
  obtain ⟨a, p⟩ := c
  obtain ⟨t, o⟩ := s
  obtain ⟨t2, o2⟩ := u
  obtain ⟨g1, rfl⟩ := dB_some.1 hd
  dsimp only at g1 ⊢
  have hL : Like t o := hs
  intro n ls bs h1 h2 k b hb
  dsimp only at h1 h2
  have up : ∀ {x}, (∃ p, (b.1, p) ∈ T ∧ p.h.new[b.2]? = x ∧ b.2 < p.h.new.length) → ∃ q, (b.1, q) ∈ T ++ [(a, p)] ∧ q.h.new[b.2]? = x ∧ b.2 < q.h.new.length := fun ⟨q, z1, z2⟩ => ⟨q, List.mem_append_left _ z1, z2⟩
  obtain ⟨hm, hc⟩ := doP_cases g1
  rw [oneB_get hL.uo] at h2
  by_cases tn : touch p n
  · rw [if_pos tn] at h2
    unfold val at h2
    rcases hc with ⟨hk, hg, rfl⟩ | ⟨hk, hg, rfl⟩ | ⟨hk, l, hg, ht, rfl⟩ | ⟨hk, l, hg, he, rfl⟩
    · rw [if_pos hk] at h2
      injection h2 with h2
      rw [← h2] at hb
      simp at hb
    · rw [if_neg (by omega), if_pos hk] at h2
      cases h2
    · rw [if_neg (by omega), if_neg (by omega), if_pos hk] at h2
      by_cases hto : p.to = n
      · rw [if_pos hto] at h2
        injection h2 with h2
        obtain ⟨m, hmo, _⟩ := like_some hL hg
        rw [hmo] at h2
        rw [get_put, if_pos hto] at h1
        injection h1 with h1
        subst h1 h2
        exact up (h p.nm _ _ hg hmo k b hb)
      · rw [if_neg hto] at h2; cases h2
    · rw [if_neg (by omega), if_neg (by omega), if_neg (by omega)] at h2
      have hn : p.nm = n := by
        rcases tn with tn | tn
        · exact tn
        · omega
      injection h2 with h2
      obtain ⟨m, hmo, hml⟩ := like_some hL hg
      obtain ⟨_, i2, _⟩ := line_in hm hk he
      rw [hmo] at h2
      rw [get_put, if_pos hn] at h1
      injection h1 with h1
      rw [lineL_swp hm hk he] at h1
      subst h1 h2
      rw [swp_at (by omega)]
      unfold born at hb
      simp only [Option.getD_some] at hb
      rw [swp_at (by omega), births_len] at hb
      by_cases k1 : k < p.h.pos.toNat
      · rw [if_pos k1] at hb ⊢
        exact up (h p.nm _ _ hg hmo k b hb)
      · rw [if_neg k1] at hb ⊢
        by_cases k2 : k < p.h.pos.toNat + p.h.new.length
        · rw [if_pos k2] at hb ⊢
          rw [births_at (by omega)] at hb
          injection hb with hb
          subst hb
          exact ⟨p, List.mem_append_right _ (.head _), rfl, by dsimp only; omega⟩
        · rw [if_neg k2] at hb ⊢
          exact up (h p.nm _ _ hg hmo _ b hb)
  · rw [if_neg tn] at h2
    have h3 : get t n = some ls := by
      rw [← h1]
      exact (doP_keeps hL.ut g1 (fun e => tn (.inl e.symm)) (fun hk e => tn (.inr ⟨hk, e.symm⟩))).symm
    exact up (h n ls bs h3 h2 k b hb)
theorem src_all : ∀ {T T0 : List Tc} {s u : TR × OR}, LikeS s → Src T0 s → doL dB s T = some u → Src (T0 ++ T) u
  | [], T0, s, u, _, h, hd => by
    injection hd with hd
    rw [← hd, List.append_nil]
    exact h
  | c :: T, T0, s, u, hs, h, hd => by
    obtain ⟨v, h1, h2⟩ := doL_cons_inv dB hd
    have := src_all (dB_like hs h1) (src_do hs h h1) h2
    rw [List.append_assoc] at this
    exact this
theorem src_nil : Src [] ([], []) := fun n ls bs h => by cases h

def Inj (o : OR) : Prop := ∀ (n m : List UInt8) bs cs (i j : Nat) b, get o n = some bs → get o m = some cs → bs[i]? = some b → cs[j]? = some b → n = m ∧ i = j
theorem born_at {a : Tag} {p : Ch} {m : List Bi} {k : Nat} {b : Bi} (h : p.h.pos.toNat + p.h.old.length ≤ m.length) (hb : (born a p m)[k]? = some b) : (∃ j, m[j]? = some b ∧ (k < p.h.pos.toNat ∧ j = k ∨ p.h.pos.toNat + p.h.new.length ≤ k ∧ j = k - p.h.new.length + p.h.old.length)) ∨ (b = (a, k - p.h.pos.toNat) ∧ p.h.pos.toNat ≤ k ∧ k < p.h.pos.toNat + p.h.new.length) := by
  unfold born at hb
  rw [swp_at h, births_len] at hb
  by_cases k1 : k < p.h.pos.toNat
  · rw [if_pos k1] at hb
    exact .inl ⟨k, hb, .inl ⟨k1, rfl⟩⟩
  · rw [if_neg k1] at hb
    by_cases k2 : k < p.h.pos.toNat + p.h.new.length
    · rw [if_pos k2, births_at (by omega)] at hb
      injection hb with hb
      exact .inr ⟨hb.symm, by omega, k2⟩
    · rw [if_neg k2] at hb
      exact .inl ⟨_, hb, .inr ⟨by omega, rfl⟩⟩
theorem inj_do {T : List Tc} {s u : TR × OR} {c : Tc} (hs : LikeS s) (hT : Src T s) (h : Inj s.2) (hf : ∀ d ∈ T, d.1 ≠ c.1) (hd : dB s c = some u) : Inj u.2 := by
  obtain ⟨a, p⟩ := c
  obtain ⟨t, o⟩ := s
  obtain ⟨t2, o2⟩ := u
  obtain ⟨g1, rfl⟩ := dB_some.1 hd
  dsimp only at g1 h hf ⊢
  have hL : Like t o := hs
  obtain ⟨hm, hc⟩ := doP_cases g1
  -- no elder birth is of this change
  have hold : ∀ (n : List UInt8) bs (i : Nat) b, get o n = some bs → bs[i]? = some b → b.1 ≠ a := fun n bs i b h1 h2 e => by
    cases hg : get t n with
    | none => rw [like_none hL hg] at h1; cases h1
    | some ls =>
      obtain ⟨q, z1, _⟩ := hT n ls bs hg h1 i b h2
      exact hf _ z1 e
  -- where a birth stood
  have key : ∀ (n : List UInt8) bs (i : Nat) b, get (oneB o a p) n = some bs → bs[i]? = some b →
      (b.1 = a ∧ (p.k = 3 ∨ p.k = 4) ∧ n = p.nm ∧ b.2 = i - p.h.pos.toNat ∧ p.h.pos.toNat ≤ i ∧ i < p.h.pos.toNat + p.h.new.length) ∨
      (∃ (n' : List UInt8) (bs' : List Bi) (j : Nat), get o n' = some bs' ∧ bs'[j]? = some b ∧ (n' = n ∧ ¬ touch p n ∧ j = i ∨ p.k = 2 ∧ n = p.to ∧ n' = p.nm ∧ j = i ∨ (p.k = 3 ∨ p.k = 4) ∧ n = p.nm ∧ n' = p.nm ∧ (i < p.h.pos.toNat ∧ j = i ∨ p.h.pos.toNat + p.h.new.length ≤ i ∧ j = i - p.h.new.length + p.h.old.length))) := fun n bs i b h1 h2 => by
    rw [oneB_get hL.uo] at h1
    by_cases tn : touch p n
    · rw [if_pos tn] at h1
      unfold val at h1
      rcases hc with ⟨hk, hg, _⟩ | ⟨hk, hg, _⟩ | ⟨hk, l, hg, ht, _⟩ | ⟨hk, l, hg, he, _⟩
      · rw [if_pos hk] at h1
        injection h1 with h1
        rw [← h1] at h2
        simp at h2
      · rw [if_neg (by omega), if_pos hk] at h1; cases h1
      · rw [if_neg (by omega), if_neg (by omega), if_pos hk] at h1
        by_cases hto : p.to = n
        · rw [if_pos hto] at h1
          injection h1 with h1
          obtain ⟨m, hmo, _⟩ := like_some hL hg
          rw [hmo] at h1
          subst h1
          exact .inr ⟨p.nm, _, i, hmo, h2, .inr (.inl ⟨hk, hto.symm, rfl, rfl⟩)⟩
        · rw [if_neg hto] at h1; cases h1
      · rw [if_neg (by omega), if_neg (by omega), if_neg (by omega)] at h1
        have hn : p.nm = n := by
          rcases tn with tn | tn
          · exact tn
          · omega
        injection h1 with h1
        obtain ⟨m, hmo, hml⟩ := like_some hL hg
        obtain ⟨_, i2, _⟩ := line_in hm hk he
        rw [hmo] at h1
        subst h1
        rcases born_at (by simp only [Option.getD_some]; omega) h2 with ⟨j, z1, z2⟩ | ⟨z1, z2, z3⟩
        · exact .inr ⟨p.nm, m, j, hmo, z1, .inr (.inr ⟨hk, hn.symm, rfl, z2⟩)⟩
        · exact .inl ⟨by rw [z1], hk, hn.symm, by rw [z1], z2, z3⟩
    · rw [if_neg tn] at h1
      exact .inr ⟨n, bs, i, h1, h2, .inl ⟨rfl, tn, rfl⟩⟩
  intro n m bs cs i j b h1 h2 h3 h4
  rcases key n bs i b h1 h3 with ⟨a1, a2, a3, a4, a5, a6⟩ | ⟨n1, bs1, i1, a1, a2, a3⟩
  · rcases key m cs j b h2 h4 with ⟨b1, b2, b3, b4, b5, b6⟩ | ⟨m1, cs1, j1, b1, b2, b3⟩
    · exact ⟨a3.trans b3.symm, by omega⟩
    · exact absurd a1 (hold m1 cs1 j1 b b1 b2)
  · rcases key m cs j b h2 h4 with ⟨b1, b2, b3, b4, b5, b6⟩ | ⟨m1, cs1, j1, b1, b2, b3⟩
    · exact absurd b1 (hold n1 bs1 i1 b a1 a2)
    · obtain ⟨e1, e2⟩ := h n1 m1 bs1 cs1 i1 j1 b a1 b1 a2 b2
      have tp : touch p p.nm := .inl rfl
      rcases a3 with ⟨c1, c2, c3⟩ | ⟨c1, c2, c3, c4⟩ | ⟨c1, c2, c3, c4⟩ <;> rcases b3 with ⟨d1, d2, d3⟩ | ⟨d1, d2, d3, d4⟩ | ⟨d1, d2, d3, d4⟩
      · exact ⟨c1.symm.trans (e1.trans d1), by omega⟩
      · exact absurd tp (by rw [← d3, ← e1, c1]; exact c2)
      · exact absurd tp (by rw [← d3, ← e1, c1]; exact c2)
      · exact absurd tp (by rw [← c3, e1, d1]; exact d2)
      · exact ⟨c2.trans d2.symm, by omega⟩
      · omega
      · exact absurd tp (by rw [← c3, e1, d1]; exact d2)
      · omega
      · exact ⟨c2.trans d2.symm, by omega⟩
theorem inj_all : ∀ {T T0 : List Tc} {s u : TR × OR}, LikeS s → Src T0 s → Inj s.2 → ((T0 ++ T).map (·.1)).Nodup → doL dB s T = some u → Inj u.2
  | [], T0, s, u, _, _, h, _, hd => by
    injection hd with hd
    rw [← hd]
    exact h
  | c :: T, T0, s, u, hs, hT, h, hn, hd => by
    obtain ⟨v, h1, h2⟩ := doL_cons_inv dB hd
    have e : T0 ++ c :: T = T0 ++ [c] ++ T := by simp
    rw [e] at hn
    have hf : ∀ d ∈ T0, d.1 ≠ c.1 := fun d hd' e => by
      rw [List.map_append, List.map_append] at hn
      have h3 := (List.nodup_append.1 (List.nodup_append.1 hn).1).2.2
      exact h3 d.1 (List.mem_map_of_mem hd') c.1 (by simp) e
    exact inj_all (dB_like hs h1) (src_do hs hT h1) (inj_do hs hT h hf h1) hn h2
theorem inj_nil : Inj [] := fun n m bs cs i j b h => by cases h

theorem tags_of (i : Id_) : ∀ (l : List Ch) (k : Nat), (tagL i k l).map (·.1) = tags i k l.length
  | [], _ => rfl
  | p :: l, k => by rw [tagL, List.map_cons, List.length_cons, tags, tags_of i l (k + 1)]
theorem tags_mem {i : Id_} {x : Tag} : ∀ {n k : Nat}, x ∈ tags i k n → x.1 = i ∧ k ≤ x.2
  | 0, k, h => by cases h
  | n + 1, k, h => by
    rcases List.mem_cons.1 (show x ∈ (i, k) :: tags i (k + 1) n from h) with rfl | h
    · exact ⟨rfl, Nat.le_refl _⟩
    · obtain ⟨h1, h2⟩ := tags_mem h
      exact ⟨h1, by omega⟩
theorem tags_nodup (i : Id_) : ∀ (n k : Nat), (tags i k n).Nodup
  | 0, _ => List.nodup_nil
  | n + 1, k => by
    rw [tags, List.nodup_cons]
    exact ⟨fun h => by have := (tags_mem h).2; dsimp only at this; omega, tags_nodup i n (k + 1)⟩
theorem tagA_nodup : ∀ {l : List Nm}, (l.map (·.id)).Nodup → ((tagA l).map (·.1)).Nodup
  | [], _ => List.nodup_nil
  | p :: l, h => by
    rw [List.map_cons, List.nodup_cons] at h
    rw [tagA_cons, List.map_append, tags_of]
    refine List.nodup_append.2 ⟨tags_nodup _ _ _, tagA_nodup h.2, fun x hx y hy e => h.1 ?_⟩
    subst e
    obtain ⟨c, hc, rfl⟩ := List.mem_map.1 hy
    unfold tagA at hc
    obtain ⟨q, hq, hc⟩ := List.mem_flatMap.1 hc
    rw [← (tags_mem hx).1, (tagL_mem hc).1]
    exact List.mem_map_of_mem hq
/-- Which patch, and which of its changes, a tag tells. -/
theorem tagA_find {l : List Nm} (hn : (l.map (·.id)).Nodup) {c : Tc} (h : c ∈ tagA l) : ∃ n p, l[n]? = some p ∧ p.id = c.1.1 ∧ (∀ (j : Nat) y, l[j]? = some y → j < n → y.id ≠ c.1.1) ∧ p.l[c.1.2]? = some c.2 := by
  unfold tagA at h
  obtain ⟨p, hp, hc⟩ := List.mem_flatMap.1 h
  obtain ⟨h1, _, h3⟩ := tagL_mem hc
  obtain ⟨n, hlt, e⟩ := List.getElem_of_mem hp
  refine ⟨n, p, by rw [List.getElem?_eq_getElem hlt, e], h1.symm, fun j y hy hj e2 => ?_, by simpa using h3⟩
  obtain ⟨hj2, e3⟩ := List.getElem?_eq_some_iff.1 hy
  have := List.pairwise_iff_getElem.1 hn j n (by simpa using hj2) (by simpa using hlt) hj
  rw [List.getElem_map, List.getElem_map, e3, e, e2, h1] at this
  exact this rfl
/-- A tree, and the births of its files, stand side by side. -/
theorem get_map {α β : Type} (g : α → β) (n : List UInt8) : ∀ t : List (List UInt8 × α), get (t.map fun f => (f.1, g f.2)) n = (get t n).map g
  | [] => rfl
  | f :: t => by
    have ih := get_map g n t
    rw [List.map_cons, get_cons, get_cons]
    dsimp only
    split
    · rfl
    · exact ih
theorem up_map {α β : Type} (g : α → β) {t : List (List UInt8 × α)} (h : Up lt t) : Up lt (t.map fun f => (f.1, g f.2)) := by
  unfold Up at h ⊢
  rw [List.pairwise_map]
  exact h
theorem like_rows {t : TR} {o : OR} (h : Like t o) : (o.map fun f => (f.1, f.2.length)) = t.map fun f => (f.1, f.2.length) :=
  up_ext lin (up_map List.length h.uo) (up_map List.length h.ut) fun n => by
    rw [get_map List.length, get_map List.length]
    exact h.len n
theorem like_at {t : TR} {o : OR} (h : Like t o) : o.length = t.length ∧ ∀ (i : Nat) f, t[i]? = some f → ∃ g, o[i]? = some g ∧ g.1 = f.1 ∧ g.2.length = f.2.length ∧ get t f.1 = some f.2 ∧ get o f.1 = some g.2 := by
  have e := like_rows h
  refine ⟨by have := congrArg List.length e; simpa using this, fun i f hf => ?_⟩
  have e1 : (o.map fun f => (f.1, f.2.length))[i]? = (t.map fun f => (f.1, f.2.length))[i]? := by rw [e]
  rw [List.getElem?_map, List.getElem?_map, hf] at e1
  cases hg : o[i]? with
  | none => rw [hg] at e1; cases e1
  | some g =>
    rw [hg] at e1
    injection e1 with e1
    injection e1 with e2 e3
    refine ⟨g, rfl, e2, e3, get_of_mem lin h.ut (List.mem_of_getElem? hf), ?_⟩
    rw [← e2]
    exact get_of_mem lin h.uo (List.mem_of_getElem? hg)
/-- What all patches make: births side by side with lines, each of a change that puts that line there, none twice. -/
theorem org_lines {l : List Nm} {u : TR} {o : OR} (hn : (l.map (·.id)).Nodup) (h : orgN ([], []) l = some (u, o)) : Like u o ∧
    ∀ (i : Nat) f g, u[i]? = some f → o[i]? = some g → ∀ (k : Nat) b, g.2[k]? = some b → ∃ n p c, l[n]? = some p ∧ p.id = b.1.1 ∧ (∀ (j : Nat) y, l[j]? = some y → j < n → y.id ≠ b.1.1) ∧ p.l[b.1.2]? = some c ∧ c.h.new[b.2]? = f.2[k]? ∧ b.2 < c.h.new.length := by
  have hl : Like u o := doB_like like_nil h
  refine ⟨hl, fun i f g hf hg k b hb => ?_⟩
  have hs : Src (tagA l) (u, o) := by
    have := src_all (T0 := []) like_nil src_nil h
    rwa [List.nil_append] at this
  obtain ⟨_, h2⟩ := like_at hl
  obtain ⟨g', h3, h4, h5, h6, h7⟩ := h2 i f hf
  rw [hg] at h3
  injection h3 with h3
  subst h3
  obtain ⟨c, hc, h8, h9⟩ := hs f.1 f.2 g.2 h6 h7 k b hb
  obtain ⟨n, p, k1, k2, k3, k4⟩ := tagA_find hn hc
  exact ⟨n, p, c, k1, k2, k3, k4, h8, h9⟩
theorem inj_nodup {o : OR} (hu : Up lt o) (h : Inj o) : (o.flatMap (·.2)).Nodup := by
  have ne : ∀ {n m : List UInt8} {bs cs : List Bi}, get o n = some bs → get o m = some cs → n ≠ m → ∀ x ∈ bs, ∀ y ∈ cs, x ≠ y := fun {n m bs cs} h1 h2 hne x hx y hy e => by
    obtain ⟨i, hi⟩ := List.mem_iff_getElem?.1 hx
    obtain ⟨j, hj⟩ := List.mem_iff_getElem?.1 hy
    rw [← e] at hj
    exact hne (h n m bs cs i j x h1 h2 hi hj).1
  unfold List.Nodup
  rw [List.pairwise_flatMap]
  refine ⟨fun f hf => ?_, ?_⟩
  · have hg := get_of_mem lin hu hf
    rw [List.pairwise_iff_getElem]
    intro i j hi hj hij e
    have := (h f.1 f.1 f.2 f.2 i j f.2[i] hg hg (List.getElem?_eq_getElem hi) (by rw [List.getElem?_eq_getElem hj, e])).2
    omega
  · unfold Up at hu
    have hu' := hu
    refine List.Pairwise.imp_of_mem ?_ hu'
    intro f g hf hg hfg
    exact ne (get_of_mem lin hu hf) (get_of_mem lin hu hg) (lin.ne hfg)
theorem org_once {l : List Nm} {u : TR} {o : OR} (hn : (l.map (·.id)).Nodup) (h : orgN ([], []) l = some (u, o)) : (o.flatMap (·.2)).Nodup := by
  have hl : Like u o := doB_like like_nil h
  exact inj_nodup hl.uo (inj_all (T0 := []) like_nil src_nil inj_nil (by rw [List.nil_append]; exact tagA_nodup hn) h)
/-- Behind others. -/
theorem org_behind {l : List Nm} {u : TR × OR} {p q x y : Nm} (h : passN p q = some (x, y)) (hd : orgN ([], []) (l ++ [p, q]) = some u) : orgN ([], []) (l ++ [x, y]) = some u := by
  unfold orgN at hd ⊢
  rw [tagA_app, doL_app] at hd ⊢
  cases h1 : doL dB ([], []) (tagA l) with
  | none => rw [h1] at hd; cases hd
  | some v =>
    rw [h1] at hd
    rw [Option.bind_some] at hd ⊢
    exact org_stays (doB_like like_nil h1) h hd

end Bm
end Go.Proofs.YtfnhjflocfmcoaaGreat

set_option maxRecDepth 100000
namespace Go.Proofs.YtfnhjflocfmcoaaGreat
open Go.ChangeShapes Go.WideShapes Go.ChangeAt Go.RowKit
set_option linter.unusedVariables false
namespace Bm
open Tx Df Sq Hk Tr Pr Fl Pn Tg

/-- The cells of births. -/
abbrev biC (x : Bi) : List Value := [.int .i64 x.1.1.1, .int .i64 x.1.1.2, .int .i64 (x.1.2 : Int), .int .i64 (x.2 : Int)]
/-- The value of a birth. -/
abbrev biV (x : Bi) : Value := .agg #[.int .i64 x.1.1.1, .int .i64 x.1.1.2, .int .i64 (x.1.2 : Int), .int .i64 (x.2 : Int)]
def bisV (l : List Bi) : List Value := l.flatMap biC
theorem bisV_cons (x : Bi) (l : List Bi) : bisV (x :: l) = .int .i64 x.1.1.1 :: .int .i64 x.1.1.2 :: .int .i64 (x.1.2 : Int) :: .int .i64 (x.2 : Int) :: bisV l := List.flatMap_cons
theorem bisV_app (l u : List Bi) : bisV (l ++ u) = bisV l ++ bisV u := List.flatMap_append
theorem bisV_len : ∀ (l : List Bi), (bisV l).length = l.length * 4
  | [] => rfl
  | x :: l => by rw [bisV_cons]; simp only [List.length_cons]; rw [bisV_len l]; omega
theorem bisV_at : ∀ {l : List Bi} {k : Nat} {x : Bi}, l[k]? = some x → (bisV l)[k * 4]? = some (.int .i64 x.1.1.1) ∧ (bisV l)[k * 4 + 1]? = some (.int .i64 x.1.1.2) ∧ (bisV l)[k * 4 + 2]? = some (.int .i64 (x.1.2 : Int)) ∧ (bisV l)[k * 4 + 3]? = some (.int .i64 (x.2 : Int))
  | [], k, x, h => by simp at h
  | y :: l, 0, x, h => by
    injection h with h
    subst h
    rw [bisV_cons]
    exact ⟨rfl, rfl, rfl, rfl⟩
  | y :: l, k + 1, x, h => by
    rw [bisV_cons, show (k + 1) * 4 = k * 4 + 1 + 1 + 1 + 1 by omega]
    exact bisV_at (l := l) (by simpa using h)
theorem bisV_one : ∀ (l : List Bi), ∀ u ∈ bisV l, u.oneCell' = true
  | [], u, h => by cases h
  | x :: l, u, h => by
    rw [bisV_cons] at h
    simp only [List.mem_cons] at h
    rcases h with rfl | rfl | rfl | rfl | h
    · rfl
    · rfl
    · rfl
    · rfl
    · exact bisV_one l u h
theorem bisV_drop : ∀ (l : List Bi) (n : Nat), (bisV l).drop (n * 4) = bisV (l.drop n)
  | [], n => by simp [bisV]
  | x :: l, 0 => rfl
  | x :: l, n + 1 => by
    rw [bisV_cons, show (n + 1) * 4 = n * 4 + 1 + 1 + 1 + 1 by omega, List.drop_succ_cons, List.drop_succ_cons, List.drop_succ_cons, List.drop_succ_cons, List.drop_succ_cons]
    exact bisV_drop l n
theorem bisV_take : ∀ (l : List Bi) (n : Nat), (bisV l).take (n * 4) = bisV (l.take n)
  | [], n => by simp [bisV]
  | x :: l, 0 => by rw [Nat.zero_mul, List.take_zero, List.take_zero]; rfl
  | x :: l, n + 1 => by
    rw [bisV_cons, show (n + 1) * 4 = n * 4 + 1 + 1 + 1 + 1 by omega, List.take_succ_cons, List.take_succ_cons, List.take_succ_cons, List.take_succ_cons, List.take_succ_cons, bisV_cons, bisV_take l n]
/-- The address A leads, in a block that S names, to births; or there are none. -/
abbrev RdB (w : World) (S : Nat → Prop) (A : Option Addr) (l : List Bi) : Prop := RdG w S A (bisV l)
section
variable {W W' : World} {S T : Nat → Prop} {A : Option Addr} {l u : List Bi}
theorem RdB.elem (h : RdB W S A l) {k : Nat} {x : Bi} (hx : l[k]? = some x) :
    ∃ a, A = some a ∧ S a.block ∧ W.cell? (a.add (k * 4)) = some (.int .i64 x.1.1.1) ∧ W.cell? ⟨(a.add (k * 4)).block, (a.add (k * 4)).off + 1, none⟩ = some (.int .i64 x.1.1.2) ∧ W.cell? ⟨(a.add (k * 4)).block, (a.add (k * 4)).off + 2, none⟩ = some (.int .i64 (x.1.2 : Int)) ∧ W.cell? ⟨(a.add (k * 4)).block, (a.add (k * 4)).off + 3, none⟩ = some (.int .i64 (x.2 : Int)) := by
  obtain ⟨h1, h2, h3, h4⟩ := bisV_at hx
  rcases h with h | ⟨a, e, hlt, hc⟩
  · rw [h] at h1; simp at h1
  · exact ⟨a, e, hlt, hc _ _ h1, by rw [add_off _ _ _ (by decide)]; exact hc _ _ h2, by rw [add_off _ _ _ (by decide)]; exact hc _ _ h3, by rw [add_off _ _ _ (by decide)]; exact hc _ _ h4⟩
theorem RdB.drop (h : RdB W S A l) (k : Nat) : RdB W S (A.map (·.add (k * 4))) (l.drop k) := by
  show RdG W S _ (bisV (l.drop k))
  rw [← bisV_drop]
  rcases h with h | ⟨a, rfl, hlt, hc⟩
  · exact .inl (by rw [h]; simp)
  · refine .inr ⟨a.add (k * 4), rfl, by rw [add_block]; exact hlt, fun j u hu => ?_⟩
    rw [add_add]
    exact hc _ u (by rw [← hu, List.getElem?_drop])
theorem RdB.take (h : RdB W S A l) (k : Nat) : RdB W S A (l.take k) := by
  show RdG W S _ (bisV (l.take k))
  rw [← bisV_take]
  rcases h with h | ⟨a, rfl, hlt, hc⟩
  · exact .inl (by rw [h]; simp)
  · refine .inr ⟨a, rfl, hlt, fun j u hu => hc j u ?_⟩
    by_cases hj : j < k * 4
    · rw [List.getElem?_take_of_lt hj] at hu; exact hu
    · rw [List.getElem?_take_eq_none (by omega)] at hu; cases hu
end
theorem info_birth : (Tryz.prog.info? 33).map (fun i => (i.zero, i.size, i.bytes)) = some (some (.agg #[.int .i64 0, .int .i64 0, .int .i64 0, .int .i64 0]), 4, 32) := by kernel_rfl
theorem info_origin : (Tryz.prog.info? 48).map (fun i => (i.zero, i.size, i.bytes)) = some (some (.agg #[.string ⟨#[]⟩, .slice none 0 0]), 2, 40) := by kernel_rfl

/-- Births in a row of one's own. -/
abbrev OwnB (W : World) (base : Nat) (v : Value) (l : List Bi) : Prop := W.ownsRow base 33 4 v l.length (bisV l)
section
variable {W W' : World} {base : Nat} {v : Value} {l u : List Bi}
theorem ownB_nil (W : World) (base : Nat) : OwnB W base (.slice none 0 0) [] := World.ownsRow_nil _ _ _ _
theorem ownB_ge (h : OwnB W base v l) : ∀ k, v.ownBlock = some k → base ≤ k := fun k hk => own_ge h k hk
theorem rdB_own (h : OwnB W base v l) : ∃ A c, v = .slice A l.length c ∧ l.length ≤ c ∧ RdB W (fun b => base ≤ b ∧ b < W.heap.size) A l := by
  rcases h.2 with ⟨rfl, h0⟩ | ⟨g, cap, cur, rfl, hbg, hg, hc, _⟩
  · have : l = [] := List.eq_nil_of_length_eq_zero h0
    subst this
    exact ⟨none, 0, rfl, Nat.le_refl _, .inl rfl⟩
  · refine ⟨_, cap, rfl, hc, .inr ⟨_, rfl, ⟨hbg, (Array.getElem?_eq_some_iff.1 hg).1⟩, fun j u hu => ?_⟩⟩
    have ea : (⟨g, 0, none⟩ : Addr).add j = ⟨g, j, none⟩ := by unfold Addr.add; split <;> simp_all
    have hj : j < (bisV l).length := (List.getElem?_eq_some_iff.1 hu).1
    rw [bisV_len] at hj
    rw [ea, h.cellAt j (by omega)]
    exact hu
theorem run_ownB {S : Nat → Prop} {ty : TypeId} {m c : Nat} {A : Option Addr} (h : OwnB W base v l) (hu : RdB W S A u) (hm : u.length = m) (hn : l.length + m ≤ 100000) (hbase : base ≤ W.heap.size) :
    ∃ v' W', (Builtin.append_ #[46, 46] ty #[v, .slice A m c]).run Tryz.prog W = .ok v' W' ∧ OwnB W' base v' (l ++ u) ∧ W.grownBy W' v.ownBlock := by
  obtain ⟨i0, hi0, hz0, hz1, hz2⟩ := info_parts info_birth
  by_cases hm0 : m = 0
  · have hu0 : u = [] := List.eq_nil_of_length_eq_zero (by omega)
    subst hu0
    obtain ⟨A0, c0, rfl, hc0, _⟩ := rdB_own h
    subst hm0
    exact ⟨_, W, run_append_none Tryz.underlying46 hi0 hc0, by rw [List.append_nil]; exact h, ⟨rfl, rfl, rfl, Nat.le_refl _, fun _ _ _ => rfl⟩⟩
  · have hy := bisV_len u
    obtain ⟨a, rfl, hcell⟩ : ∃ a, A = some a ∧ ∀ (j : Nat) x, (bisV u)[j]? = some x → W.cell? (a.add j) = some x := by
      rcases hu with hy' | ⟨a, e, _, h⟩
      · rw [hy'] at hy; simp at hy; omega
      · exact ⟨a, e, h⟩
    obtain ⟨g, cap, W', hr, r1, r2, r3, r4⟩ := run_append_lies (P := Tryz.prog) (w := W) 46 ty base 33 i0 _ 4 32 Tryz.underlying46 hi0 hz0 hz1 hz2 rfl (by decide) v l.length (bisV l) h a m c (bisV u) (by rw [hy, hm]) hcell (bisV_one u) (by omega) (by unfold maxLen; omega) (by omega) hbase W.heap.size rfl
    refine ⟨_, W', hr, ?_, r2⟩
    show W'.ownsRow _ _ _ _ (l ++ u).length (bisV (l ++ u))
    rw [List.length_append, hm, bisV_app]
    exact r1
theorem wpList_ownB {ops : Array Oper} {rest : List Oper} {o : Oper} {a : Act} {Q : Exit → Act → World → Prop} (hgd : o.guard = none) (s x : Operand)
    (ho : o.op = .call { callee := .builtin .append, args := #[s, x], argTypes := #[46, 46] })
    (S : Nat → Prop) (base m c : Nat) (v : Value) (A : Option Addr) (l u : List Bi) (hs : a.eval s = v) (hx : a.eval x = .slice A m c) (h : OwnB W base v l) (hu : RdB W S A u)
    (hm : u.length = m) (hn : l.length + m ≤ 100000) (hbase : base ≤ W.heap.size)
    (hK : ∀ v' W', OwnB W' base v' (l ++ u) → W.grownBy W' v.ownBlock → wpList Tryz.prog ops Q rest (a.put o.dst v') W') : wpList Tryz.prog ops Q (o :: rest) a W := by
  refine wpList_plain hgd fun K hK' => ?_
  obtain ⟨v', W', hrun, h2, h3⟩ := run_ownB (ty := o.type) (c := c) h hu hm hn hbase
  unfold Oper.wp execOp
  simp only [ho, resolve, invoke, builtin, Sem.run_bind, Sem.run_pure, Result.andThen_ok, List.map_toArray, List.map_cons, List.map_nil, hs, hx, hrun]
  exact hK' _ _ (hK v' W' h2 h3)
end
/-- One birth in a block of its own is read as a list. -/
theorem rdB_lone {W : World} {S : Nat → Prop} {b : Nat} {x : Bi} (h : Blk W b 33 #[.int .i64 x.1.1.1, .int .i64 x.1.1.2, .int .i64 (x.1.2 : Int), .int .i64 (x.2 : Int)]) (hb : S b) : RdB W S (some ⟨b, 0, none⟩) [x] :=
  .inr ⟨_, rfl, hb, fun j u hu => by
    rcases j with _ | _ | _ | _ | j
    · rw [add_zero']; exact h.cell 0 hu
    · exact h.cell 1 hu
    · exact h.cell 2 hu
    · exact h.cell 3 hu
    · simp [bisV] at hu⟩

/-- The cells of origins, as far as they go; their births lie in blocks that S names. -/
def OCells (W : World) (S : Nat → Prop) (o : OR) (xs : List Value) : Prop :=
  ∀ (k : Nat) x, o[k]? = some x → ∃ A c, xs[k * 2]? = some (strV x.1) ∧ xs[k * 2 + 1]? = some (.slice A x.2.length c) ∧ x.2.length ≤ c ∧ RdB W S A x.2
section
variable {W W' : World} {S T : Nat → Prop} {base : Nat} {v : Value} {o u : OR} {xs ys : List Value}
theorem OCells.mono (h : OCells W S o xs) (hs : ∀ b, S b → T b) : OCells W T o xs := fun k x hx => by
  obtain ⟨A, c, h0, h1, h2, h3⟩ := h k x hx
  exact ⟨A, c, h0, h1, h2, h3.mono hs⟩
theorem OCells.to (h : OCells W S o xs) (ha : Fl.Alike S W W') : OCells W' S o xs := fun k x hx => by
  obtain ⟨A, c, h0, h1, h2, h3⟩ := h k x hx
  exact ⟨A, c, h0, h1, h2, h3.to ha⟩
theorem OCells.nil (W : World) (S : Nat → Prop) (xs : List Value) : OCells W S [] xs := fun k x hx => by simp at hx
theorem OCells.one {A : Option Addr} {n c : Nat} {x : List UInt8 × List Bi} (hn : x.2.length = n) (hc : n ≤ c) (h : RdB W S A x.2) : OCells W S [x] [strV x.1, .slice A n c] := fun k y hy => by
  cases k with
  | zero => injection hy with hy; subst hy; subst hn; exact ⟨A, c, rfl, rfl, hc, h⟩
  | succ k => simp at hy
theorem OCells.append (h : OCells W S o xs) (hl : xs.length = o.length * 2) (h' : OCells W S u ys) : OCells W S (o ++ u) (xs ++ ys) := fun k x hx => by
  by_cases hk : k < o.length
  · rw [List.getElem?_append_left hk] at hx
    obtain ⟨A, c, h0, h1, h2, h3⟩ := h k x hx
    exact ⟨A, c, by rw [List.getElem?_append_left (by omega)]; exact h0, by rw [List.getElem?_append_left (by omega)]; exact h1, h2, h3⟩
  · rw [List.getElem?_append_right (by omega)] at hx
    obtain ⟨A, c, h0, h1, h2, h3⟩ := h' _ x hx
    refine ⟨A, c, ?_, ?_, h2, h3⟩
    · rw [List.getElem?_append_right (by omega), show k * 2 - xs.length = (k - o.length) * 2 by omega]; exact h0
    · rw [List.getElem?_append_right (by omega), show k * 2 + 1 - xs.length = (k - o.length) * 2 + 1 by omega]; exact h1
theorem OCells.cells1 (h : OCells W S o xs) (hl : xs.length = o.length * 2) : ∀ u ∈ xs, u.oneCell' = true := fun u hu => by
  obtain ⟨j, hj⟩ := List.getElem?_of_mem hu
  have hlt := (List.getElem?_eq_some_iff.1 hj).1
  have hk : j / 2 < o.length := by omega
  obtain ⟨A, c, h0, h1, _, _⟩ := h (j / 2) _ (List.getElem?_eq_getElem hk)
  rcases Nat.mod_two_eq_zero_or_one j with e | e
  · rw [show j / 2 * 2 = j by omega, hj] at h0
    injection h0 with h0
    rw [h0]; rfl
  · rw [show j / 2 * 2 + 1 = j by omega, hj] at h1
    injection h1 with h1
    rw [h1]; rfl

/-- Origins in a row of one's own; their births lie in blocks that S names. -/
def OwnO (W : World) (S : Nat → Prop) (base : Nat) (v : Value) (o : OR) : Prop := ∃ xs, W.ownsRow base 48 2 v o.length xs ∧ OCells W S o xs
theorem ownO_nil (W : World) (S : Nat → Prop) (base : Nat) : OwnO W S base (.slice none 0 0) [] := ⟨[], World.ownsRow_nil _ _ _ _, OCells.nil _ _ _⟩
theorem OwnO.mono (h : OwnO W S base v o) (hs : ∀ b, S b → T b) : OwnO W T base v o := by
  obtain ⟨xs, h1, h2⟩ := h
  exact ⟨xs, h1, h2.mono hs⟩
theorem OwnO.below (h : OwnO W S base v o) (hb : Below W.heap.size W W') : OwnO W' S base v o := by
  obtain ⟨xs, h1, h2⟩ := h
  exact ⟨xs, own_gr h1 (below_gr_row hb), h2.to (fun b _ hl => hb.block b hl)⟩
theorem ownO_ge (h : OwnO W S base v o) : ∀ g, v.ownBlock = some g → base ≤ g := fun g hg => h.elim fun xs h => own_ge h.1 g hg
theorem ownO_slice (h : OwnO W S base v o) : ∃ A c, v = .slice A o.length c ∧ o.length ≤ c := by
  obtain ⟨xs, hr, hF⟩ := h
  rcases hr.2 with ⟨rfl, h1⟩ | ⟨g, cap, cur, rfl, hbg, hg, hc, _⟩
  · exact ⟨none, 0, by rw [h1], by rw [h1]; exact Nat.le_refl _⟩
  · exact ⟨_, cap, rfl, hc⟩
end

/-- The cells of an origin at the address a; its births in a block that S names. -/
structure OAt (w : World) (S : Nat → Prop) (a : Addr) (k : Nat) (x : List UInt8 × List Bi) : Prop where
  c0 : w.cell? (a.add (k * 2)) = some (strV x.1)
  c1 : ∃ A c, w.cell? ⟨(a.add (k * 2)).block, (a.add (k * 2)).off + 1, none⟩ = some (.slice A x.2.length c) ∧ x.2.length ≤ c ∧ RdB w S A x.2
/-- The address A leads, in a block that S names, to origins; or there are none. -/
def RdO (w : World) (S : Nat → Prop) (A : Option Addr) (o : OR) : Prop := o = [] ∨ ∃ a, A = some a ∧ S a.block ∧ ∀ (k : Nat) x, o[k]? = some x → OAt w S a k x
section
variable {W W' : World} {S T : Nat → Prop} {base : Nat} {A : Option Addr} {v : Value} {o u : OR}
theorem RdO.mono (h : RdO W S A o) (hs : ∀ b, S b → T b) : RdO W T A o := h.imp id fun ⟨a, e, h1, h2⟩ => ⟨a, e, hs _ h1, fun k x hx => by
  obtain ⟨c0, B, c, c1, c2, c3⟩ := h2 k x hx
  exact ⟨c0, B, c, c1, c2, c3.mono hs⟩⟩
theorem RdO.to (h : RdO W S A o) (ha : Fl.Alike S W W') : RdO W' S A o := h.imp id fun ⟨a, e, h1, h2⟩ => ⟨a, e, h1, fun k x hx => by
  obtain ⟨c0, B, c, c1, c2, c3⟩ := h2 k x hx
  have hk : S (a.add (k * 2)).block := by rw [add_block]; exact h1
  exact ⟨Fl.cell_to ha hk c0, B, c, Fl.cell_to ha hk c1, c2, c3.to ha⟩⟩
theorem RdO.mv (h : RdO W (· < W.heap.size) A o) (hb : Below W.heap.size W W') : RdO W' (· < W'.heap.size) A o := (h.to (fun b _ hl => hb.block b hl)).mono fun b h => Nat.lt_of_lt_of_le h hb.size
theorem RdO.elem (h : RdO W S A o) {k : Nat} {x : List UInt8 × List Bi} (hx : o[k]? = some x) : ∃ a, A = some a ∧ S a.block ∧ OAt W S a k x := by
  rcases h with rfl | ⟨a, e, h1, h2⟩
  · simp at hx
  · exact ⟨a, e, h1, h2 k x hx⟩
/-- A row of origins of one's own is read as origins. -/
theorem rdO_own (h : OwnO W S base v o) : ∃ A c, v = .slice A o.length c ∧ o.length ≤ c ∧ RdO W (fun b => S b ∨ (base ≤ b ∧ b < W.heap.size)) A o := by
  obtain ⟨xs, hr, hF⟩ := h
  rcases hr.2 with ⟨rfl, h0⟩ | ⟨g, cap, cur, rfl, hbg, hg, hc, _⟩
  · have : o = [] := List.eq_nil_of_length_eq_zero h0
    subst this
    exact ⟨none, 0, rfl, Nat.le_refl _, .inl rfl⟩
  · refine ⟨_, cap, rfl, hc, .inr ⟨_, rfl, .inr ⟨hbg, (Array.getElem?_eq_some_iff.1 hg).1⟩, fun k x hx => ?_⟩⟩
    obtain ⟨A, c, g1, g2, g3, g4⟩ := hF k x hx
    have hk : k < o.length := (List.getElem?_eq_some_iff.1 hx).1
    have ea : (⟨g, 0, none⟩ : Addr).add (k * 2) = ⟨g, k * 2, none⟩ := by unfold Addr.add; split <;> simp_all
    refine ⟨?_, A, c, ?_, g3, g4.mono fun b hb => .inl hb⟩
    · rw [ea, hr.cellAt (k * 2) (by omega)]; exact g1
    · rw [ea]; show W.cell? ⟨g, k * 2 + 1, none⟩ = _; rw [hr.cellAt (k * 2 + 1) (by omega)]; exact g2

/-- Origins that can be appended: their cells, and where these lie. -/
def SrcO (W : World) (S : Nat → Prop) (A : Option Addr) (u : OR) : Prop :=
  ∃ ys : List Value, ys.length = u.length * 2 ∧ OCells W S u ys ∧ (ys = [] ∨ ∃ a, A = some a ∧ ∀ (j : Nat) x, ys[j]? = some x → W.cell? (a.add j) = some x)
theorem oneO_src {b n c : Nat} {B : Option Addr} {x : List UInt8 × List Bi} (h : Blk W b 48 #[strV x.1, .slice B n c]) (hn : x.2.length = n) (hc : n ≤ c) (hx : RdB W S B x.2) : SrcO W S (some ⟨b, 0, none⟩) [x] :=
  ⟨_, rfl, OCells.one hn hc hx, .inr ⟨_, rfl, fun j u hu => by
    rcases j with _ | _ | j
    · rw [add_zero']; exact h.cell 0 hu
    · exact h.cell 1 hu
    · simp at hu⟩⟩
theorem run_ownO {ty : TypeId} {m c : Nat} (h : OwnO W S base v o) (hu : SrcO W S A u) (hm : u.length = m) (hn : o.length + m ≤ 100000) (hS : ∀ b, S b → some b ≠ v.ownBlock) (hbase : base ≤ W.heap.size) :
    ∃ v' W', (Builtin.append_ #[25, 25] ty #[v, .slice A m c]).run Tryz.prog W = .ok v' W' ∧ OwnO W' S base v' (o ++ u) ∧ W.grownBy W' v.ownBlock := by
  obtain ⟨i0, hi0, hz0, hz1, hz2⟩ := info_parts info_origin
  obtain ⟨ys, hyl, hU, hsrc⟩ := hu
  have h0 := h
  obtain ⟨xs, hrow, hF⟩ := h
  by_cases hm0 : m = 0
  · have hu0 : u = [] := List.eq_nil_of_length_eq_zero (by omega)
    subst hu0
    obtain ⟨A0, c0, rfl, hc0⟩ := ownO_slice h0
    subst hm0
    exact ⟨_, W, run_append_none Tryz.underlying25 hi0 hc0, by rw [List.append_nil]; exact ⟨xs, hrow, hF⟩, ⟨rfl, rfl, rfl, Nat.le_refl _, fun _ _ _ => rfl⟩⟩
  · obtain ⟨a, rfl, hcell⟩ : ∃ a, A = some a ∧ ∀ (j : Nat) x, ys[j]? = some x → W.cell? (a.add j) = some x := by
      rcases hsrc with hy | h
      · rw [hy] at hyl; simp at hyl; omega
      · exact h
    obtain ⟨g, cap, W', hr, r1, r2, r3, r4⟩ := run_append_lies (P := Tryz.prog) (w := W) 25 ty base 48 i0 _ 2 40 Tryz.underlying25 hi0 hz0 hz1 hz2 rfl (by decide) v o.length xs hrow a m c ys (by rw [hyl, hm]) hcell (hU.cells1 hyl) (by omega) (by unfold maxLen; omega) (by omega) hbase W.heap.size rfl
    exact ⟨_, W', hr, ⟨xs ++ ys, by rw [List.length_append, hm]; exact r1, (hF.append hrow.1 hU).to ((alike_gr r2).mono fun b hb => hS b hb)⟩, r2⟩
theorem wpList_ownO {ops : Array Oper} {rest : List Oper} {op : Oper} {a : Act} {Q : Exit → Act → World → Prop} (hgd : op.guard = none) (s x : Operand)
    (ho : op.op = .call { callee := .builtin .append, args := #[s, x], argTypes := #[25, 25] })
    (S : Nat → Prop) (base m c : Nat) (v : Value) (A : Option Addr) (o u : OR) (hs : a.eval s = v) (hx : a.eval x = .slice A m c) (h : OwnO W S base v o) (hu : SrcO W S A u)
    (hm : u.length = m) (hn : o.length + m ≤ 100000) (hS : ∀ b, S b → some b ≠ v.ownBlock) (hbase : base ≤ W.heap.size)
    (hK : ∀ v' W', OwnO W' S base v' (o ++ u) → W.grownBy W' v.ownBlock → wpList Tryz.prog ops Q rest (a.put op.dst v') W') : wpList Tryz.prog ops Q (op :: rest) a W := by
  refine wpList_plain hgd fun K hK' => ?_
  obtain ⟨v', W', hrun, h2, h3⟩ := run_ownO (ty := op.type) (c := c) h hu hm hn hS hbase
  unfold Oper.wp execOp
  simp only [ho, resolve, invoke, builtin, Sem.run_bind, Sem.run_pure, Result.andThen_ok, List.map_toArray, List.map_cons, List.map_nil, hs, hx, hrun]
  exact hK' _ _ (hK v' W' h2 h3)
end

end Bm
end Go.Proofs.YtfnhjflocfmcoaaGreat

set_option maxRecDepth 100000
namespace Go.Proofs.YtfnhjflocfmcoaaGreat
namespace Bm
open Tx Sq Hk Tr Pr Fl Pn
set_option linter.unusedVariables false

/-- Where an origin of a name stands first. -/
def ixO (s : List UInt8) : OR → Option Nat
  | [] => none
  | x :: o => if x.1 = s then some 0 else (ixO s o).map (· + 1)
def ixOV (o : Option Nat) : Int := match o with | some k => (k : Int) | none => -1
theorem ixO_at {s : List UInt8} : ∀ {o : OR} {k : Nat} {x : List UInt8 × List Bi}, o[k]? = some x → x.1 = s → (∀ (j : Nat) y, o[j]? = some y → j < k → y.1 ≠ s) → ixO s o = some k
  | [], k, x, h, _, _ => by simp at h
  | y :: o, 0, x, h, e, _ => by
    injection h with h
    subst h
    rw [ixO, if_pos e]
  | y :: o, k + 1, x, h, e, hb => by
    have h0 : y.1 ≠ s := hb 0 y rfl (by omega)
    rw [ixO, if_neg h0, ixO_at (o := o) (k := k) (by simpa using h) e (fun j z hz hj => hb (j + 1) z (by simpa using hz) (by omega))]
    rfl
theorem ixO_no {s : List UInt8} : ∀ {o : OR}, (∀ (j : Nat) y, o[j]? = some y → y.1 ≠ s) → ixO s o = none
  | [], _ => rfl
  | y :: o, h => by
    rw [ixO, if_neg (h 0 y rfl), ixO_no fun j z hz => h (j + 1) z (by simpa using hz)]
    rfl
theorem ixO_get {s : List UInt8} : ∀ {o : OR} {m : List Bi}, get o s = some m → ∃ k x, ixO s o = some k ∧ o[k]? = some x ∧ x.1 = s ∧ x.2 = m
  | [], m, h => by cases h
  | y :: o, m, h => by
    rw [get_cons] at h
    by_cases e : y.1 = s
    · rw [if_pos e] at h
      injection h with h
      exact ⟨0, y, by rw [ixO, if_pos e], rfl, e, h⟩
    · rw [if_neg e] at h
      obtain ⟨k, x, h1, h2, h3, h4⟩ := ixO_get h
      exact ⟨k + 1, x, by rw [ixO, if_neg e, h1]; rfl, by simpa using h2, h3, h4⟩

end Bm
end Go.Proofs.YtfnhjflocfmcoaaGreat

set_option maxRecDepth 100000
namespace Go.Proofs.YtfnhjflocfmcoaaGreat
open Go.RowKit
set_option linter.unusedVariables false
set_option linter.unusedSimpArgs false
namespace Bm
open Tx Df Sq Hk Tr Pr Fl Pn Tg

/-- How a function ends that tells origins. -/
def OrgEnd (w : World) (o : OR) (e : Ending) (w' : World) : Prop := ∃ A n c, e = .returned (.slice A n c) ∧ o.length = n ∧ n ≤ c ∧ RdO w' (· < w'.heap.size) A o ∧ Below w.heap.size w w'
/-- How a function ends that tells births, in memory that is new. -/
def BisEnd (w : World) (l : List Bi) (e : Ending) (w' : World) : Prop := ∃ A n c, e = .returned (.slice A n c) ∧ l.length = n ∧ n ≤ c ∧ RdB w' (Since w w') A l ∧ Below w.heap.size w w'

theorem births_snoc (a : Tag) (k : Nat) : births a (k + 1) = births a k ++ [(a, k)] := by unfold births; rw [List.range_succ, List.map_append]; rfl
end Bm
end Go.Proofs.YtfnhjflocfmcoaaGreat

set_option maxRecDepth 100000
namespace Go.Proofs.YtfnhjflocfmcoaaGreat
open Go.RowKit
set_option linter.unusedVariables false
set_option linter.unusedSimpArgs false
namespace Bm
open Tx Df Sq Hk Tr Pr Fl Pn Tg

theorem OrgEnd.of {w w1 w' : World} {o o' : OR} {e : Ending} (h : OrgEnd w1 o e w') (hb : Below w.heap.size w w1) (he : o = o') : OrgEnd w o' e w' := by
  subst he
  obtain ⟨A, n, c, h1, h2, h3, h4, h5⟩ := h
  exact ⟨A, n, c, h1, h2, h3, h4, below_mv hb h5⟩

theorem bis_grown {w W W' : World} {v : Value} {l : List Bi} (hb : Below w.heap.size w W) (hO : OwnB W w.heap.size v l) (hg : W.grownBy W' v.ownBlock) : Below w.heap.size w W' := hb.grown hg hb.size (fun g e => ownB_ge hO g e)
theorem rdB_cut {W : World} {S : Nat → Prop} {A : Option Addr} {l : List Bi} (h : RdB W S A l) {k cap : Nat} (hc : l.length ≤ cap) : RdB W S (if cap = k then A else A.map (·.add (k * 4))) (l.drop k) := by
  by_cases e : cap = k
  · subst e
    rw [if_pos rfl, List.drop_of_length_le hc]
    exact .inl rfl
  · rw [if_neg e]
    exact h.drop k

end Bm
end Go.Proofs.YtfnhjflocfmcoaaGreat

set_option maxRecDepth 100000
namespace Go.Proofs.YtfnhjflocfmcoaaGreat
open Go.RowKit
set_option linter.unusedVariables false
set_option linter.unusedSimpArgs false
namespace Pn
open Tx Df Sq Hk Tr Pr Fl

/-- Whether two ids are the same. -/
theorem eq_id (a b c d : Int) (w : World) : (Op.equalIn 10000 31 (.agg #[.int .i64 a, .int .i64 b]) (.agg #[.int .i64 c, .int .i64 d])).run Tryz.prog w = .ok (decide ((a, b) = (c, d))) w := by
  rw [show (10000 : Nat) = 9999 + 1 from rfl]
  go_simp
  by_cases h1 : a = c <;> by_cases h2 : b = d <;> simp [h1, h2]
/-- Is a patch light? -/
def lightN (p : Nm) (most : Nat) : Bool := fewP p.l most && (decide (p.deps.length ≤ 100) && decide (p.txt.length ≤ 200))
def fewN (l : List Nm) (most : Nat) : Bool := decide (l.length ≤ most) && l.all (lightN · 10)
theorem fewN_no {l : List Nm} {x : Nm} {k most : Nat} (hx : l[k]? = some x) (h : lightN x 10 = false) : fewN l most = false := by
  have : l.all (lightN · 10) = false := by
    rw [List.all_eq_false]
    exact ⟨x, List.mem_of_getElem? hx, by rw [h]; decide⟩
  unfold fewN
  rw [this, Bool.and_false]

theorem lightN_len {p : Nm} {most : Nat} (h : lightN p most = true) : p.l.length ≤ most ∧ p.deps.length ≤ 100 := by
  unfold lightN fewP at h
  simp only [Bool.and_eq_true, decide_eq_true_eq] at h
  exact ⟨h.1.1, h.2.1⟩
theorem fewN_len {l : List Nm} {most : Nat} (h : fewN l most = true) : l.length ≤ most := by
  unfold fewN at h
  simp only [Bool.and_eq_true, decide_eq_true_eq] at h
  exact h.1
theorem fewN_all {l : List Nm} {most : Nat} (h : fewN l most = true) : ∀ x ∈ l, lightN x 10 = true := by
  unfold fewN at h
  rw [Bool.and_eq_true, List.all_eq_true] at h
  exact h.2
theorem okP_light {x : Ch} (h : okP x = true) : lightP x = true := by
  unfold okP at h
  rw [Bool.and_eq_true] at h
  exact h.1
/-- All changes of a few light patches: not many, and light. -/
theorem allN_few : ∀ {l : List Nm}, (∀ x ∈ l, lightN x 10 = true) → (allN l).length ≤ l.length * 10 ∧ ∀ x ∈ allN l, lightP x = true
  | [], _ => ⟨Nat.le_refl _, fun x hx => by cases hx⟩
  | p :: l, h => by
    obtain ⟨h1, h2⟩ := allN_few fun x hx => h x (.tail _ hx)
    have hp := h p (.head _)
    have hl := (lightN_len hp).1
    rw [allN_cons]
    refine ⟨by rw [List.length_append, List.length_cons]; omega, fun x hx => ?_⟩
    rcases List.mem_append.1 hx with hx | hx
    · unfold lightN fewP at hp
      simp only [Bool.and_eq_true, decide_eq_true_eq, List.all_eq_true] at hp
      exact okP_light (hp.1.2 x hx)
    · exact h2 x hx

set_option maxHeartbeats 2000000 in
theorem LightN (D : Option Addr) (dn dc : Nat) (A : Option Addr) (n c most : Nat) (p : Nm) (w : World) (b : Bool) (hm : most ≤ 1000) (hv : NV w w.heap.size D dn dc A n c p) (hb : lightN p most = b) :
    Calls Tryz.prog 17 #[nmV p.id D dn dc p.txt A n c, .int .i64 (most : Int)] w (BoolEnd w b) := by
  obtain ⟨id, ds, t, l⟩ := p
  have HV := Lib.hid hv; have HB := Lib.hid hb.symm
  have HBX := Lib.hid (Blk.new w 41 #[.int .i64 id.1, .int .i64 id.2, .slice D dn dc, strV t, .slice A n c])
  have hba : Below w.heap.size w (w.alloc (.cells #[.int .i64 id.1, .int .i64 id.2, .slice D dn dc, strV t, .slice A n c] 41)) := (Below.refl _ _).alloc (Nat.le_refl _) _
  have HBA := Lib.hid hba
  have HTL := Lib.hid (size_strV t)
  clear hv hb hba
  dsimp only
  go_enter Tryz.func17, Tryz.ntmps17
  go_wp2_with fail
  obtain ⟨bl, hbl⟩ : ∃ b, fewP l most = b := ⟨_, rfl⟩
  have hv := HV.out.mv HBA.out
  refine (Fl.Few A n c most l _ bl hm ⟨hv.l, hv.k, hv.m, hv.r⟩ hbl).mono ?_
  rintro e w2 ⟨rfl, hb2⟩
  have HBL := Lib.hid hbl
  have hbw := below_mv HBA.out hb2
  have HBW := Lib.hid hbw
  have b2 := HBX.out.below hb2 HBX.out.lt
  have x1 := b2.cell 2 rfl
  have x2 := b2.cell 3 rfl
  have HDL := Lib.hid hv.dl
  clear hbl hv hb2 hbw b2
  cases bl with
  | false =>
    go_wp2
    go_ret
    exact ⟨ret_bool (by rw [HB.out]; unfold lightN; rw [HBL.out]; rfl), HBW.out⟩
  | true =>
    go_wp2
    all_goals go_ret
    all_goals refine ⟨ret_bool ?_, HBW.out⟩
    all_goals rw [HB.out]; unfold lightN; rw [HBL.out]; dsimp only at HDL ⊢; rw [HDL.out]
    all_goals rw [Bool.true_and, Bool.eq_iff_iff]
    all_goals simp only [Bool.and_eq_true, decide_eq_true_eq, Bool.false_eq_true]
    all_goals constructor <;> intro hz
    all_goals first | omega | exact hz.elim | (exfalso; omega)

set_option maxHeartbeats 2000000 in
theorem FewN (A : Option Addr) (n c most : Nat) (l : List Nm) (w : World) (b : Bool) (hm : most ≤ 1000) (h : NmsArg w A n c l) (hb : fewN l most = b) :
    Calls Tryz.prog 8 #[.slice A n c, .int .i64 (most : Int)] w (BoolEnd w b) := by
  have HR := Lib.hid h.rd; have HN := Lib.hid h.len
  have HB := Lib.hid hb.symm
  have hle := h.le
  clear h hb
  unfold maxLen at hle
  go_enter Tryz.func8, Tryz.ntmps8
  by_cases h0 : (most : Int) < (n : Int)
  · go_wp2
    go_ret
    exact ⟨ret_bool (by rw [HB.out]; unfold fewN; rw [HN.out, decide_eq_false (by omega)]; rfl), Below.refl _ _⟩
  · go_wp2
    go_loopw [5] (fun i wr => ∃ k : Nat, k ≤ n ∧ i = .int .i64 (k : Int) ∧ (l.take k).all (lightN · 10) = true ∧ Below w.heap.size w wr) (fun i _ => n - (intOf i).toNat)
    case atStart => exact ⟨0, Nat.zero_le _, rfl, rfl, Below.refl _ _⟩
    case round =>
      obtain ⟨k, hk, rfl, hall, hbw⟩ := hrel
      have HBW := Lib.hid hbw; have HAL := Lib.hid hall; clear hbw hall
      by_cases hlt : k < n
      · have hki : (k : Int) < (n : Int) := by omega
        obtain ⟨a, x, D, i, j, E, m, d, rfl, hS, hx, c0, c1, c2, c3, c4, c5⟩ := ((HR.out.mv HBW.out).elem (k := k) (by rw [HN.out]; exact hlt))
        have HX := Lib.hid hx; have HP := Lib.hid c5; clear hx c5 hS
        go_wp2_with fail
        obtain ⟨bl, hbl⟩ : ∃ b, lightN x 10 = b := ⟨_, rfl⟩
        refine (LightN D i j E m d 10 x _ bl (by decide) HP.out hbl).mono ?_
        rintro e w2 ⟨rfl, hb2⟩
        have HBL := Lib.hid hbl; clear hbl
        have hbw2 := below_mv HBW.out hb2
        have HBW2 := Lib.hid hbw2; clear hbw2 c0 c1 c2 c3 c4 hb2
        cases bl with
        | false =>
          go_wp2
          go_ret
          exact ⟨ret_bool (by rw [HB.out, fewN_no HX.out HBL.out]), HBW2.out⟩
        | true =>
          go_wp2_with fail
          refine ⟨⟨k + 1, by omega, by go_num, ?_, HBW2.out⟩, by simp [intOf]; omega⟩
          rw [take_at HX.out, List.all_append, HAL.out]
          simp [HBL.out]
      · go_wp2
        go_ret
        refine ⟨ret_bool ?_, HBW.out⟩
        have ek : l.take k = l := List.take_of_length_le (by rw [HN.out]; omega)
        have hall := HAL.out
        rw [ek] at hall
        rw [HB.out]
        unfold fewN
        rw [hall, HN.out, decide_eq_true (by omega)]
        rfl

theorem findN_at {l : List Nm} {id : Id_} {k : Nat} {x : Nm} (hx : l[k]? = some x) (h : x.id = id) (hb : ∀ (j : Nat) (y : Nm), l[j]? = some y → j < k → y.id ≠ id) : findN l id = (k : Int) := by
  have key : l.findIdx? (fun p => decide (p.id = id)) = some k := by
    rw [List.findIdx?_eq_some_iff_getElem]
    obtain ⟨hk, e⟩ := List.getElem?_eq_some_iff.1 hx
    refine ⟨hk, by rw [e]; exact decide_eq_true h, fun j hj => ?_⟩
    have := hb j _ (List.getElem?_eq_getElem (by omega)) hj
    simpa using this
  unfold findN
  rw [key]
theorem findN_no {l : List Nm} {id : Id_} (h : ∀ (j : Nat) (y : Nm), l[j]? = some y → y.id ≠ id) : findN l id = -1 := by
  have key : l.findIdx? (fun p => decide (p.id = id)) = none := by
    rw [List.findIdx?_eq_none_iff]
    intro x hx
    obtain ⟨j, hj⟩ := List.getElem?_of_mem hx
    exact decide_eq_false (h j x hj)
  unfold findN
  rw [key]

attribute [local go_sem] eq_id
theorem find1 (x y : Id_) (D : Option Addr) (dn dc : Nat) (t : List UInt8) (A : Option Addr) (n c g : Nat) (W : World) (hc0 : W.cell? ⟨g, 0, none⟩ = some (.int .i64 y.1)) (hc1 : W.cell? ⟨g, 1, none⟩ = some (.int .i64 y.2)) (hg : g < W.heap.size) (b : Bool) (hb : decide (x = y) = b) :
    Calls Tryz.prog 27 #[nmV x D dn dc t A n c, .pointer (some ⟨g, 0, none⟩)] W (BoolEnd W b) := by
  obtain ⟨x, u⟩ := x
  obtain ⟨y, v⟩ := y
  dsimp only at hc0 hc1 ⊢
  have HB := Lib.hid hb; clear hb
  go_enter Tryz.func27, Tryz.ntmps27
  go_wp2
  all_goals go_ret
  all_goals refine ⟨ret_bool ?_, (Below.refl _ _).alloc (Nat.le_refl _) _⟩
  all_goals rw [← HB.out]
  all_goals simp_all

set_option maxHeartbeats 1000000 in
theorem IndexN (id : Id_) (A : Option Addr) (c n g : Nat) (l : List Nm) (w : World) (hn : l.length = n) (hln : n ≤ 1000000) (hR : RdN w w.heap.size A l) (hg : g < w.heap.size) (hc0 : w.cell? ⟨g, 0, none⟩ = some (.int .i64 id.1)) (hc1 : w.cell? ⟨g, 1, none⟩ = some (.int .i64 id.2)) :
    Calls Tryz.prog 26 #[.slice A n c, .func (.func 27) #[] #[.pointer (some ⟨g, 0, none⟩)]] w (IntEnd w (findN l id)) := by
  have HN := Lib.hid hn; have HR := Lib.hid hR; have HC0 := Lib.hid hc0; have HC1 := Lib.hid hc1; have HG := Lib.hid hg
  clear hn hR hc0 hc1 hg
  obtain ⟨iv, hiv⟩ : ∃ iv, findN l id = iv := ⟨_, rfl⟩
  rw [hiv]
  have HIV := Lib.hid hiv; clear hiv
  go_enter Tryz.func26, Tryz.ntmps26
  go_wp2_with fail
  go_loopw [8] (fun i wr => ∃ k : Nat, k ≤ n ∧ i = .int .i64 (k : Int) ∧ (∀ (j : Nat) (y : Nm), l[j]? = some y → j < k → y.id ≠ id) ∧ Below w.heap.size w wr) (fun i _ => n - (intOf i).toNat)
  case atStart => exact ⟨0, Nat.zero_le _, rfl, fun j _ _ hj => by omega, Below.refl _ _⟩
  case round =>
    obtain ⟨k, hk, rfl, hall, hbw⟩ := hrel
    have HA := Lib.hid hall; have HBW := Lib.hid hbw; clear hall hbw
    by_cases hlt : k < n
    · have hki : (k : Int) < (n : Int) := by omega
      obtain ⟨a, x, D, i, j, E, m, d, rfl, hS, hx, c0, c1, c2, c3, c4, c5⟩ := ((HR.out.mv HBW.out).elem (k := k) (by rw [HN.out]; exact hlt))
      have HX := Lib.hid hx
      have C0 := Lib.hid ((HBW.out.cell (p := ⟨g, 0, none⟩) HG.out).trans HC0.out)
      have C1 := Lib.hid ((HBW.out.cell (p := ⟨g, 1, none⟩) HG.out).trans HC1.out)
      clear hx c5 hS
      obtain ⟨bl, hbl⟩ : ∃ b, decide (x.id = id) = b := ⟨_, rfl⟩
      have HBL := Lib.hid hbl; clear hbl
      go_wp2_with fail
      refine (find1 x.id id D i j x.txt E m d g _ C0.out C1.out (Nat.lt_of_lt_of_le HG.out HBW.out.size) bl HBL.out).mono ?_
      rintro e w2 ⟨rfl, hb2⟩
      have HBW2 := Lib.hid (below_mv HBW.out hb2)
      clear c0 c1 c2 c3 c4 hb2
      cases bl with
      | true =>
        have HE : Hid (iv = (k : Int)) := Lib.hid (by rw [← HIV.out]; exact findN_at HX.out (of_decide_eq_true HBL.out) HA.out)
        go_wp2
        go_ret
        exact ⟨by rw [HE.out]; rfl, HBW2.out⟩
      | false =>
        go_wp2_with fail
        refine ⟨⟨k + 1, by omega, by go_num, fun j y hy hj => ?_, HBW2.out⟩, by simp [intOf]; omega⟩
        by_cases e : j = k
        · subst e
          have h1 := HX.out
          rw [h1] at hy
          injection hy with hy
          subst hy
          exact of_decide_eq_false HBL.out
        · exact HA.out j y hy (by omega)
    · have HE : Hid (iv = -1) := Lib.hid (by
        rw [← HIV.out]
        exact findN_no fun j y hy => HA.out j y hy (by have := (List.getElem?_eq_some_iff.1 hy).1; have := HN.out; omega))
      go_wp2
      go_ret
      exact ⟨by rw [HE.out]; rfl, HBW.out⟩
theorem FindN (id : Id_) (A : Option Addr) (n c : Nat) (l : List Nm) (w : World) (hn : l.length = n) (hln : n ≤ 1000000) (hR : RdN w w.heap.size A l) :
    Calls Tryz.prog 14 #[.slice A n c, .agg #[.int .i64 id.1, .int .i64 id.2]] w (IntEnd w (findN l id)) := by
  have HN := Lib.hid hn; have HR := Lib.hid hR
  clear hn hR
  have b0 := Blk.new w 31 #[.int .i64 id.1, .int .i64 id.2]
  have hba : Below w.heap.size w (w.alloc (.cells #[.int .i64 id.1, .int .i64 id.2] 31)) := (Below.refl _ _).alloc (Nat.le_refl _) _
  have HB0 := Lib.hid b0; have HBA := Lib.hid hba
  clear b0 hba
  go_enter Tryz.func14, Tryz.ntmps14
  go_wp2_with fail
  refine (IndexN id A c n w.heap.size l _ HN.out hln (HR.out.mv HBA.out) HB0.out.lt (HB0.out.cell 0 rfl) (HB0.out.cell 1 rfl)).mono ?_
  rintro e w2 ⟨rfl, hb2⟩
  have HBW := Lib.hid (below_mv HBA.out hb2)
  clear hb2
  go_wp2
  go_ret
  exact ⟨rfl, HBW.out⟩

end Pn
end Go.Proofs.YtfnhjflocfmcoaaGreat

set_option maxRecDepth 100000
namespace Go.Proofs.YtfnhjflocfmcoaaGreat
open Go.RowKit
set_option linter.unusedVariables false
set_option linter.unusedSimpArgs false
namespace Fl
open Tx Df Sq Hk Tr Pr

theorem doF_at {t u : TR} {l : List Ch} {k : Nat} {x : Ch} (hx : l[k]? = some x) (h : doF t l = doF u (l.drop k)) : doF t l = doF u (x :: l.drop (k + 1)) := by rw [h, drop_at hx]

/-- How a call ends that makes a list of changes. -/
def LPEnd (w : World) (l : List Ch) (e : Ending) (w' : World) : Prop := ∃ A c, e = .returned (.slice A l.length c) ∧ l.length ≤ c ∧ RdP w' (· < w'.heap.size) A l ∧ Below w.heap.size w w'
/-- The cells of one change in a block of their own. -/
theorem one_srcP {W : World} {b : Nat} {A B : Option Addr} {n c m d : Nat} {x : Ch} (h : Blk W b 55 #[.int .i64 x.k, strV x.nm, strV x.to, .int .i64 x.h.pos, .slice A n c, .slice B m d]) :
    ∀ (j : Nat) u, [Value.int .i64 x.k, strV x.nm, strV x.to, .int .i64 x.h.pos, .slice A n c, .slice B m d][j]? = some u → W.cell? ((⟨b, 0, none⟩ : Addr).add j) = some u := fun j u hu => by
  rcases j with _ | _ | _ | _ | _ | _ | j
  · rw [add_zero']; exact h.cell 0 hu
  · exact h.cell 1 hu
  · exact h.cell 2 hu
  · exact h.cell 3 hu
  · exact h.cell 4 hu
  · exact h.cell 5 hu
  · simp at hu

end Fl
end Go.Proofs.YtfnhjflocfmcoaaGreat

set_option maxRecDepth 100000
namespace Go.Proofs.YtfnhjflocfmcoaaGreat
open Go.RowKit
set_option linter.unusedVariables false
namespace Fl
open Tx Df Sq Hk Tr Pr

section
variable {α : Type} (P : α → α → Option (α × α))
theorem one_none_app {a b : List α} {q : α} (h : one P b q = none) : one P (a ++ b) q = none := by rw [one_app, h]; rfl
theorem one_step {l post : List α} {k : Nat} {p q q1 x y : α} (hx : l[k]? = some p) (h : one P (l.drop (k + 1)) q = some (q1, post)) (h1 : P p q1 = some (x, y)) : one P (l.drop k) q = some (x, y :: post) := by
  rw [drop_at hx]; exact one_cons P h h1
theorem one_step_none {l post : List α} {k : Nat} {p q q1 : α} (hx : l[k]? = some p) (h : one P (l.drop (k + 1)) q = some (q1, post)) (h1 : P p q1 = none) : one P l q = none := by
  have h2 : one P (l.drop k) q = none := by rw [drop_at hx, one, h, Option.bind_some, h1]; rfl
  rw [← List.take_append_drop k l]
  exact one_none_app P h2
theorem passL_step {a b x cur a1 : List α} {k : Nat} {q q1 : α} (h : passL P a (b.take k) = some (x, cur)) (hx : b[k]? = some q) (h1 : one P cur q = some (q1, a1)) : passL P a (b.take (k + 1)) = some (x ++ [q1], a1) := by
  rw [take_at hx, passL_app2, h, Option.bind_some, passL_cons P h1 (passL_nil P a1)]; rfl
theorem passL_step_none {a b x cur : List α} {k : Nat} {q : α} (h : passL P a (b.take k) = some (x, cur)) (hx : b[k]? = some q) (h1 : one P cur q = none) : passL P a b = none := by
  rw [← List.take_append_drop k b, passL_app2, h, Option.bind_some, drop_at hx, passL, h1]; rfl
theorem one_all {Q : α → Prop} (hP : ∀ {p q x y}, P p q = some (x, y) → Q p → Q q → Q x ∧ Q y) : ∀ {a : List α} {q x : α} {y : List α}, one P a q = some (x, y) → (∀ z ∈ a, Q z) → Q q → Q x ∧ ∀ z ∈ y, Q z
  | [], q, x, y, h, ha, hq => by
    injection h with h
    injection h with h1 h2
    subst h1 h2
    exact ⟨hq, ha⟩
  | p :: a, q, x, y, h, ha, hq => by
    obtain ⟨q1, a1, z, h1, h2, rfl⟩ := one_cons_inv P h
    obtain ⟨i1, i2⟩ := one_all hP h1 (fun z hz => ha z (.tail _ hz)) hq
    obtain ⟨j1, j2⟩ := hP h2 (ha p (.head _)) i1
    exact ⟨j1, fun u hu => by
      cases hu with
      | head => exact j2
      | tail _ h => exact i2 u h⟩
theorem passL_all {Q : α → Prop} (hP : ∀ {p q x y}, P p q = some (x, y) → Q p → Q q → Q x ∧ Q y) : ∀ {b a x y : List α}, passL P a b = some (x, y) → (∀ z ∈ a, Q z) → (∀ z ∈ b, Q z) → (∀ z ∈ x, Q z) ∧ ∀ z ∈ y, Q z
  | [], a, x, y, h, ha, hb => by
    rw [passL_nil] at h
    injection h with h
    injection h with h1 h2
    subst h1 h2
    exact ⟨hb, ha⟩
  | q :: b, a, x, y, h, ha, hb => by
    obtain ⟨q1, a1, b1, h1, h2, rfl⟩ := passL_cons_inv P h
    obtain ⟨i1, i2⟩ := one_all P hP h1 ha (hb q (.head _))
    obtain ⟨j1, j2⟩ := passL_all hP h2 i2 (fun z hz => hb z (.tail _ hz))
    exact ⟨fun u hu => by
      cases hu with
      | head => exact i1
      | tail _ h => exact j1 u h, j2⟩
end

/-- Light changes. -/
def Lt (l : List Ch) : Prop := ∀ x ∈ l, lightP x = true
theorem passP_lt {p q x y : Ch} (h : passP p q = some (x, y)) (hp : lightP p = true) (hq : lightP q = true) : lightP x = true ∧ lightP y = true := way_light (passP_way h).2.2 hp hq
theorem one_lt {a y : List Ch} {q x : Ch} (h : one passP a q = some (x, y)) (ha : Lt a) (hq : lightP q = true) : lightP x = true ∧ Lt y := one_all passP passP_lt h ha hq
theorem passF_lt {a b x y : List Ch} (h : passF a b = some (x, y)) (ha : Lt a) (hb : Lt b) : Lt x ∧ Lt y := passL_all passP passP_lt h ha hb
theorem Lt.app {a b : List Ch} (ha : Lt a) (hb : Lt b) : Lt (a ++ b) := fun x hx => (List.mem_append.1 hx).elim (ha x) (hb x)
theorem Lt.tail {a : Ch} {l : List Ch} (h : Lt (a :: l)) : Lt l := fun x hx => h x (.tail _ hx)
theorem turnP_lt {p : Ch} (h : lightP p = true) : lightP (turnP p) = true := by
  unfold lightP at h ⊢
  simp only [Bool.and_eq_true, decide_eq_true_eq] at h ⊢
  by_cases h0 : p.k = 0
  · rw [turnP_0 h0]; exact h
  by_cases h1 : p.k = 1
  · rw [turnP_1 h1]; exact h
  by_cases h2 : p.k = 2
  · rw [turnP_2 h2]; exact ⟨h.1, h.2.2, h.2.1⟩
  rw [turnP_h h0 h1 h2]; exact ⟨⟨h.1.2, h.1.1⟩, h.2⟩
theorem Lt.turn {l : List Ch} (h : Lt l) : Lt (turnF l) := fun x hx => by
  unfold turnF at hx
  rw [List.mem_reverse, List.mem_map] at hx
  obtain ⟨p, hp, rfl⟩ := hx
  exact turnP_lt (h p hp)
theorem lt_len {W : World} {S : Nat → Prop} {A B : Option Addr} {n c m d : Nat} {p : Ch} (h : PG W S A n c B m d p) (hp : lightP p = true) : n ≤ 1000 ∧ m ≤ 1000 := by
  obtain ⟨h1, h2⟩ := lightP_h hp
  rw [h.l] at h1
  rw [h.l'] at h2
  omega

end Fl
end Go.Proofs.YtfnhjflocfmcoaaGreat

set_option maxRecDepth 100000
namespace Go.Proofs.YtfnhjflocfmcoaaGreat
open Go.RowKit
set_option linter.unusedVariables false
namespace Sw
open Tx Df Hk

/-- How a call ends that tells the lines that are handed in, as they are. -/
def PassEndE (A : Option Addr) (n c : Nat) (A' : Option Addr) (n' c' : Nat) (D : Option Addr) (m k : Nat) (D' : Option Addr) (m' k' : Nat) (w : World) (o : Option (HU × HU)) (e : Ending) (w' : World) : Prop :=
  (∀ z, o = some z → e = .returned (.tuple #[hkV z.1.pos D m k D' m' k', hkV z.2.pos A n c A' n' c', .bool true])) ∧
  (o = none → e = .returned (.tuple #[hkV 0 none 0 0 none 0 0, hkV 0 none 0 0 none 0 0, .bool false])) ∧ Below w.heap.size w w'
section
variable {A A' D D' : Option Addr} {n c n' c' m k m' k' : Nat} {w w' : World} {o : Option (HU × HU)} {e : Ending}
theorem PassEndE.end_ {B : Nat} {p q : HU} (h : PassEndE A n c A' n' c' D m k D' m' k' w (passH p q) e w') (hB : B ≤ w.heap.size) (hv : HV w B A n c A' n' c' p) (gv : HV w B D m k D' m' k' q) : PassEnd w (passH p q) e w' := by
  obtain ⟨h1, h2, hb⟩ := h
  cases ho : passH p q with
  | none => rw [h2 ho]; exact passEnd_none rfl hb
  | some z =>
    have e1 := h1 z ho
    obtain ⟨_, b1, b2, b3, b4⟩ := pass_moves (x := z.1) (y := z.2) (passH_may (z := z) ho).2.2.1
    obtain ⟨a1, a2⟩ := pass_pos (x := z.1) (y := z.2) (passH_may (z := z) ho).2.2.1 (mayH_pos (passH_may ho).1).1 (mayH_pos (passH_may ho).2.1).1
    have l1 := (passH_may ho).2.2.2.1; have l2 := (passH_may ho).2.2.2.2
    have hv' := (hv.below (hb.mono hB)).up (Nat.le_trans hB hb.size); have gv' := (gv.below (hb.mono hB)).up (Nat.le_trans hB hb.size)
    refine ⟨D, m, k, D', m', k', A, n, c, A', n', c', e1, ?_, ?_, hb⟩
    · exact ⟨by show z.1.old.length = m; rw [b1]; exact gv.l, by show z.1.new.length = m'; rw [b2]; exact gv.l', gv.k, gv.k', gv.m, gv.m', by show RdS _ _ _ z.1.old; rw [b1]; exact gv'.r, by show RdS _ _ _ z.1.new; rw [b2]; exact gv'.r', ⟨by show _ ≤ z.1.pos; omega, by show z.1.pos ≤ _; omega⟩⟩
    · exact ⟨by show z.2.old.length = n; rw [b3]; exact hv.l, by show z.2.new.length = n'; rw [b4]; exact hv.l', hv.k, hv.k', hv.m, hv.m', by show RdS _ _ _ z.2.old; rw [b3]; exact hv'.r, by show RdS _ _ _ z.2.new; rw [b4]; exact hv'.r', ⟨by show _ ≤ z.2.pos; omega, by show z.2.pos ≤ _; omega⟩⟩
end

end Sw
end Go.Proofs.YtfnhjflocfmcoaaGreat

set_option maxRecDepth 100000
namespace Go.Proofs.YtfnhjflocfmcoaaGreat
open Go.RowKit
set_option linter.unusedVariables false
set_option linter.unusedSimpArgs false
namespace Pr
open Tx Df Sq Hk Tr

section
variable {p q : Ch}
theorem passP_no1 (h : mayP p = false) : passP p q = none := by unfold passP; rw [if_pos (.inl h)]
theorem passP_no2 (h : mayP q = false) : passP p q = none := by unfold passP; rw [if_pos (.inr h)]
theorem passP_ap (hp : mayP p = true) (hq : mayP q = true) (h : apartP p q = true) : passP p q = some (q, p) := passP_apart hp hq (apartP_iff.1 h)
theorem passP_b (hp : mayP p = true) (hq : mayP q = true) (h : apartP p q = false) (kp : p.k = 3) (kq : q.k = 3) : passP p q = (Sw.passH p.h q.h).map fun z => (⟨q.k, q.nm, q.to, z.1⟩, ⟨p.k, p.nm, p.to, z.2⟩) := by
  unfold passP
  rw [if_neg (may_not hp hq), if_neg (by rw [h]; decide), if_pos ⟨kp, kq⟩]
theorem passP_o (hp : mayP p = true) (hq : mayP q = true) (h : apartP p q = false) (kp : p.k = 2) (kq : q.k = 3 ∨ q.k = 4) (hn : q.nm = p.to) : passP p q = some (⟨q.k, p.nm, q.to, q.h⟩, p) := by
  unfold passP
  rw [if_neg (may_not hp hq), if_neg (by rw [h]; decide), if_neg (by omega), if_pos ⟨kp, kq, hn⟩]
theorem passP_i (hp : mayP p = true) (hq : mayP q = true) (h : apartP p q = false) (kq : q.k = 2) (kp : p.k = 3 ∨ p.k = 4) (hn : p.nm = q.nm) : passP p q = some (q, ⟨p.k, q.to, p.to, p.h⟩) := by
  unfold passP
  rw [if_neg (may_not hp hq), if_neg (by rw [h]; decide), if_neg (by omega), if_neg (by omega), if_pos ⟨kq, kp, hn⟩]
theorem passP_n (h : apartP p q = false) (h3 : ¬ (p.k = 3 ∧ q.k = 3)) (ho : ¬ (p.k = 2 ∧ (q.k = 3 ∨ q.k = 4) ∧ q.nm = p.to)) (hi : ¬ (q.k = 2 ∧ (p.k = 3 ∨ p.k = 4) ∧ p.nm = q.nm)) : passP p q = none := by
  unfold passP
  by_cases hm : mayP p = false ∨ mayP q = false
  · rw [if_pos hm]
  · rw [if_neg hm, if_neg (show ¬ apartP p q = true by rw [h]; decide), if_neg h3, if_neg ho, if_neg hi]
end

/-- Two changes stored, one behind the other. -/
theorem two_set6 {W : World} {b b' : Nat} {t : TypeId} {x0 x1 x2 x3 x4 x5 y0 y1 y2 y3 y4 y5 : Value} (h : Blk W b t #[x0, x1, x2, x3, x4, x5]) (h' : Blk W b' t #[y0, y1, y2, y3, y4, y5]) (hne : b ≠ b') (v0 v1 v2 v3 v4 v5 u0 u1 u2 u3 u4 u5 : Value) :
    Blk ((((((((((((W.setCell ⟨b, 0, none⟩ v0).setCell ⟨b, 1, none⟩ v1).setCell ⟨b, 2, none⟩ v2).setCell ⟨b, 3, none⟩ v3).setCell ⟨b, 4, none⟩ v4).setCell ⟨b, 5, none⟩ v5).setCell ⟨b', 0, none⟩ u0).setCell ⟨b', 1, none⟩ u1).setCell ⟨b', 2, none⟩ u2).setCell ⟨b', 3, none⟩ u3).setCell ⟨b', 4, none⟩ u4).setCell ⟨b', 5, none⟩ u5) b t #[v0, v1, v2, v3, v4, v5] ∧
    Blk ((((((((((((W.setCell ⟨b, 0, none⟩ v0).setCell ⟨b, 1, none⟩ v1).setCell ⟨b, 2, none⟩ v2).setCell ⟨b, 3, none⟩ v3).setCell ⟨b, 4, none⟩ v4).setCell ⟨b, 5, none⟩ v5).setCell ⟨b', 0, none⟩ u0).setCell ⟨b', 1, none⟩ u1).setCell ⟨b', 2, none⟩ u2).setCell ⟨b', 3, none⟩ u3).setCell ⟨b', 4, none⟩ u4).setCell ⟨b', 5, none⟩ u5) b' t #[u0, u1, u2, u3, u4, u5] :=
  ⟨((((((blk6 h v0 v1 v2 v3 v4 v5).set_ne hne 0 u0).set_ne hne 1 u1).set_ne hne 2 u2).set_ne hne 3 u3).set_ne hne 4 u4).set_ne hne 5 u5,
   blk6 ((((((h'.set_ne hne.symm 0 v0).set_ne hne.symm 1 v1).set_ne hne.symm 2 v2).set_ne hne.symm 3 v3).set_ne hne.symm 4 v4).set_ne hne.symm 5 v5) u0 u1 u2 u3 u4 u5⟩
theorem below_set12 {B : Nat} {w W : World} {b b' : Nat} (h : Below B w W) (hb : B ≤ b) (hb' : B ≤ b') (v0 v1 v2 v3 v4 v5 u0 u1 u2 u3 u4 u5 : Value) :
    Below B w ((((((((((((W.setCell ⟨b, 0, none⟩ v0).setCell ⟨b, 1, none⟩ v1).setCell ⟨b, 2, none⟩ v2).setCell ⟨b, 3, none⟩ v3).setCell ⟨b, 4, none⟩ v4).setCell ⟨b, 5, none⟩ v5).setCell ⟨b', 0, none⟩ u0).setCell ⟨b', 1, none⟩ u1).setCell ⟨b', 2, none⟩ u2).setCell ⟨b', 3, none⟩ u3).setCell ⟨b', 4, none⟩ u4).setCell ⟨b', 5, none⟩ u5) :=
  (((((((((((h.setCell (p := ⟨b, 0, none⟩) hb v0).setCell (p := ⟨b, 1, none⟩) hb v1).setCell (p := ⟨b, 2, none⟩) hb v2).setCell (p := ⟨b, 3, none⟩) hb v3).setCell (p := ⟨b, 4, none⟩) hb v4).setCell (p := ⟨b, 5, none⟩) hb v5).setCell (p := ⟨b', 0, none⟩) hb' u0).setCell (p := ⟨b', 1, none⟩) hb' u1).setCell (p := ⟨b', 2, none⟩) hb' u2).setCell (p := ⟨b', 3, none⟩) hb' u3).setCell (p := ⟨b', 4, none⟩) hb' u4).setCell (p := ⟨b', 5, none⟩) hb' u5
theorem three_set {W : World} {b : Nat} {t : TypeId} {b' : Nat} {x : Array Value} (h : Blk W b t x) (hne : b ≠ b') (v3 v4 v5 : Value) : Blk (((W.setCell ⟨b', 3, none⟩ v3).setCell ⟨b', 4, none⟩ v4).setCell ⟨b', 5, none⟩ v5) b t x :=
  ((h.set_ne hne 3 v3).set_ne hne 4 v4).set_ne hne 5 v5

end Pr
end Go.Proofs.YtfnhjflocfmcoaaGreat
