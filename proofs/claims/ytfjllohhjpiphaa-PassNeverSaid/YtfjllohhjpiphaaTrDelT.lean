/-
  What Del of layer 7 returns (walk).
-/
import Derived.Test.YtfjllohhjpiphaaTrDel
set_option maxRecDepth 100000
namespace Go.Proofs.Ytfjllohhjpiphaa
open Go.RowKit
set_option linter.unusedVariables false
namespace Tr
open Tx

theorem del_end {w w4 w' : World} {g n k : Nat} {t : TR} {xs : List Value} {s : List UInt8} {e : Ending} (hrow : w4.ownsRow w.heap.size 48 2 (.slice (some ⟨g, 0, none⟩) n n) n xs) (hF : FCells w4 (some g) t xs) (hn : t.length = n) (hi : ixF (isN s) t = some k) (hb : Below w.heap.size w w4)
    (he : DeleteEnd w4 w.heap.size g n k xs e w') : TreeEnd w (del t s) e w' := by
  obtain ⟨rfl, ho, hg⟩ := he
  obtain ⟨hk, h1, _, h3⟩ := get_ix hi
  have hd := del_at hk h1 h3
  have hlen : (del t s).length = k + (n - (k + 1)) := by rw [hd, List.length_append, List.length_take, List.length_drop]; omega
  have hF2 := (hF.gr hg).del (p := k) (by rw [hn]; exact hrow.1) (Nat.le_of_lt hk)
  rw [← hd] at hF2
  refine treeEnd_own (base := w.heap.size) ⟨_, by rw [hlen]; exact ho, hF2⟩ (hb.grown hg (Nat.le_trans hb.size (Nat.le_refl _)) fun j e => by injection e with e; subst e; exact (hrow.lt _ rfl).1)

set_option maxHeartbeats 1000000 in
theorem Del (s : List UInt8) (A : Option Addr) (c n B : Nat) (t : TR) (w : World) (hn : t.length = n) (hs : Wide t) (hB : B ≤ w.heap.size) (hR : RdT w B A t) :
    Calls Try.prog 71 #[.slice A n c, strV s] w (TreeEnd w (del t s)) := by
  have hln : n ≤ 3518437208800 := by rw [← hn]; exact hs.len
  have hI := fun w hB hR => find s A c n B t w hn hln hB hR
  have HN := Lib.hid hn; have HS := Lib.hid hs; have R := Lib.hid hR
  obtain ⟨o, ho⟩ : ∃ o, ixF (isN s) t = o := ⟨_, rfl⟩
  rw [ho] at hI
  have HI := Lib.hid hI
  clear hn hs hR hI
  go_enter Try.func71, Try.ntmps71
  go_wp2_with fail
  refine (againT A c n B t w HN.out HS.out hB R.out).mono ?_
  rintro e w1 ⟨rfl, ⟨xs, hrow, hF⟩, hb1⟩
  have HB1 := Lib.hid hb1; have HRW := Lib.hid hrow; have HF := Lib.hid hF
  clear hb1 hrow hF
  have hgw1 : w.heap.size < w1.heap.size := (HRW.out.lt _ rfl).2
  have hone := HF.out.one_cell (by rw [HN.out]; exact HRW.out.1)
  cases o with
  | none =>
    have hd := del_no (get_ix_none ho)
    have he : TreeEnd w (del t s) (.returned (.slice (some ⟨w.heap.size, 0, none⟩) n n)) w1 := by
      rw [hd]
      exact treeEnd_own (base := w.heap.size) ⟨xs, by rw [HN.out]; exact HRW.out, HF.out⟩ HB1.out
    have hee : ∀ w2, Below w1.heap.size w1 w2 → TreeEnd w (del t s) (.returned (.slice (some ⟨w.heap.size, 0, none⟩) n n)) w2 := fun w2 hb2 => by
      obtain ⟨A, c, e1, e2, e3, e4⟩ := he
      exact ⟨A, c, e1, e2, (e3.below hb2).up hb2.size, e4.trans (hb2.mono e4.size)⟩
    have HEE := Lib.hid hee
    clear ho hd he hee hone
    obtain ⟨g, hg⟩ : ∃ g, w.heap.size = g := ⟨_, rfl⟩
    rw [hg] at HEE HB1 hB hgw1 ⊢
    clear hg HRW HF
    go_wp2_with fail
    refine (HI.out w1 (Nat.le_trans hB (Nat.le_of_lt hgw1)) (R.out.below (HB1.out.mono hB))).mono ?_
    rintro e w4 ⟨rfl, hb4⟩
    simp only [ixV]
    have HE4 := Lib.hid (HEE.out w4 hb4)
    clear hb4
    go_wp2
    go_ret
    exact HE4.out
  | some k =>
    have hkn : k < n := by have := (ixF_some ho).1; rw [HN.out] at this; exact this
    have hE := fun (w4 w' : World) (e : Ending) hr hF hb he => del_end (w := w) (w4 := w4) (w' := w') (g := w.heap.size) (n := n) (k := k) (t := t) (xs := xs) (s := s) (e := e) hr hF HN.out ho hb he
    have HE := Lib.hid hE
    clear ho hE
    have hln' := hln
    have HB1' := Lib.hid HB1.out
    obtain ⟨g, hg⟩ : ∃ g, w.heap.size = g := ⟨_, rfl⟩
    rw [hg] at HE HB1 HRW HF hB hgw1 ⊢
    clear hg
    go_wp2_with fail
    refine (HI.out w1 (Nat.le_trans hB (Nat.le_of_lt hgw1)) (R.out.below (HB1.out.mono hB))).mono ?_
    rintro e w4 ⟨rfl, hb4⟩
    simp only [ixV]
    have hrow4 := own_gr HRW.out (below_gr_row hb4)
    have hend := fun w' e he => HE.out w4 w' e hrow4 (HF.out.gr (gr_none (below_gr_row hb4))) (HB1.out.trans (hb4.mono (Nat.le_of_lt hgw1))) he
    have HROW4 := Lib.hid hrow4; have HEND := Lib.hid hend; have HONE := Lib.hid hone
    clear hrow4 hend hb4 hone
    go_wp2_with fail
    refine (Delete g n k g xs w4 hln hkn HROW4.out HONE.out).mono ?_
    rintro e w5 ⟨rfl, ho5, hg5⟩
    have HE5 := Lib.hid (HEND.out w5 _ ⟨rfl, ho5, hg5⟩)
    clear ho5 hg5
    go_wp2
    go_ret
    exact HE5.out

end Tr
end Go.Proofs.Ytfjllohhjpiphaa
