/-
  What the method tell of layer 13 leaves (walk): one change more is told.
-/
import Derived.Test.YtjhjmfodpnipiaaNwMem
import Derived.Test.YtjhjmfodpnipiaaTdWords
import Derived.Test.YtjhjmfodpnipiaaFlRef2
import Derived.Deep.RegionLaw
set_option maxRecDepth 100000
namespace Go.Proofs.Ytjhjmfodpnipiaa
open Go.RowKit
set_option linter.unusedVariables false
set_option linter.unusedSimpArgs false
namespace Nw
open Tx Df Sq Hk Tr Pr Fl

set_option maxRecDepth 100000 in
set_option maxHeartbeats 4000000 in
theorem tell (S : Nat → Prop) (b : Nat) (l : List Ch) (A : Option Addr) (n c : Nat) (A' : Option Addr) (n' c' : Nat) (p : Ch) (w : World) (hs : Gat w S b l) (hS : ∀ k, S k → k < w.heap.size ∧ k ≠ b) (hl : l.length ≤ 50000) (hp : PG w S A n c A' n' c' p) :
    Calls Try.prog 18 #[.pointer (some ⟨b, 0, none⟩), prV p.k p.nm p.to p.h.pos A n c A' n' c'] w (GatEnd w S b (l ++ [p])) := by
  obtain ⟨v, hb, ho, hrow⟩ := hs
  obtain ⟨Av, cv, rfl, hcv⟩ := ownG_slice ho
  obtain ⟨nv, hnv⟩ : ∃ nv, l.length = nv := ⟨_, rfl⟩
  rw [hnv] at hb ho hcv hl hrow
  have HNV := Lib.hid hnv
  have hba : Below w.heap.size w (w.alloc (.cells #[.int .i64 p.k, strV p.nm, strV p.to, .int .i64 p.h.pos, .slice A n c, .slice A' n' c'] 39)) := (Below.refl _ _).alloc (Nat.le_refl _) _
  have HBZ := Lib.hid (Blk.new w 39 #[.int .i64 p.k, strV p.nm, strV p.to, .int .i64 p.h.pos, .slice A n c, .slice A' n' c'])
  have HB := Lib.hid (hb.below hba hb.lt); have HO := Lib.hid (ho.below hba); have HP := Lib.hid (hp.to_ ((alike_below hba).mono fun k hk => (hS k hk).1))
  have HBW := Lib.hid (hba.mono (Nat.le_of_lt hb.lt))
  have HAL := Lib.hid (show Fl.Alike S w _ from (alike_below hba).mono fun k hk => (hS k hk).1)
  have hbl := hb.lt
  have HROW := Lib.hid hrow
  clear hnv hba hb ho hp hrow
  go_enter Try.func18, Try.ntmps18
  go_upto_region 1 with fail
  generalize hW : (w.alloc (.cells #[.int .i64 p.k, strV p.nm, strV p.to, .int .i64 p.h.pos, .slice A n c, .slice A' n' c'] 39)) = W at *
  have HSW : Hid (∀ k, S k → k < W.heap.size ∧ k ≠ b) := Lib.hid (fun k hk => ⟨by rw [← hW]; simp; have := (hS k hk).1; omega, (hS k hk).2⟩)
  clear hW
  obtain ⟨z, hz⟩ : ∃ z, w.heap.size = z := ⟨_, rfl⟩
  rw [hz] at HBZ hbl ⊢
  clear hz
  have HZ := Lib.hid hbl
  have b0 := HB.out.cell 0 rfl
  have bf := HB.out.frozen 0
  have bz := HBZ.out
  have z0 := bz.cell 0 rfl; have z1 := bz.cell 1 rfl; have z2 := bz.cell 2 rfl; have z3 := bz.cell 3 rfl; have z4 := bz.cell 4 rfl; have z5 := bz.cell 5 rfl
  clear bz
  have hbb := HB.out.lt
  have hba : Below W.heap.size W (W.alloc (.cells #[.int .i64 p.k, strV p.nm, strV p.to, .int .i64 p.h.pos, .slice A n c, .slice A' n' c'] 39)).drew := below_drewN ((Below.refl _ _).alloc (Nat.le_refl _) _) 1
  have HO1 := Lib.hid (HO.out.below hba)
  have hal2 : Fl.Alike S W (W.alloc (.cells #[.int .i64 p.k, strV p.nm, strV p.to, .int .i64 p.h.pos, .slice A n c, .slice A' n' c'] 39)).drew := (alike_below hba).mono fun k hk => (HSW.out k hk).1
  have HC1 := Lib.hid (PCells.one ((HP.out.to_ hal2).mono (T := Two (W.alloc (.cells #[.int .i64 p.k, strV p.nm, strV p.to, .int .i64 p.h.pos, .slice A n c, .slice A' n' c'] 39)).drew b (Value.slice Av nv cv).ownBlock) fun k hk => ⟨⟨Nat.lt_of_lt_of_le (HSW.out k hk).1 hba.size, fun e => HROW.out k e.symm hk⟩, (HSW.out k hk).2⟩))
  have hbn : Blk (W.alloc (.cells #[.int .i64 p.k, strV p.nm, strV p.to, .int .i64 p.h.pos, .slice A n c, .slice A' n' c'] 39)).drew W.heap.size 39 #[.int .i64 p.k, strV p.nm, strV p.to, .int .i64 p.h.pos, .slice A n c, .slice A' n' c'] := (Blk.new W 39 #[.int .i64 p.k, strV p.nm, strV p.to, .int .i64 p.h.pos, .slice A n c, .slice A' n' c']).drewN 1
  have HSR := Lib.hid (one_srcP hbn)
  have HB1 := Lib.hid (HB.out.below hba hbb)
  have HBW1 := Lib.hid (HBW.out.trans (hba.mono (Nat.le_of_lt hbb)))
  have HAL1 : Hid (Fl.Alike S w (W.alloc (.cells #[.int .i64 p.k, strV p.nm, strV p.to, .int .i64 p.h.pos, .slice A n c, .slice A' n' c'] 39)).drew) := Lib.hid (fun k hk hlt => (hal2 k hk (HSW.out k hk).1).trans (HAL.out k hk hlt))
  have HSZ := Lib.hid (show b < (W.alloc (.cells #[.int .i64 p.k, strV p.nm, strV p.to, .int .i64 p.h.pos, .slice A n c, .slice A' n' c'] 39)).drew.heap.size from Nat.lt_of_lt_of_le hbb hba.size)
  have HSN := Lib.hid (fun k hk => Nat.lt_of_lt_of_le (HSW.out k hk).1 hba.size)
  clear hba hbn hal2 HO HB HP HBZ HBW
  have HGE : Hid (∀ k, (Value.slice Av nv cv).ownBlock = some k → b + 1 ≤ k) := Lib.hid (fun k e => ownG_ge HO1.out k e)
  have HNV1 : Hid (l.length + 1 ≤ 100000) := Lib.hid (by have := HNV.out; omega)
  have HBS : Hid (b + 1 ≤ (W.alloc (.cells #[.int .i64 p.k, strV p.nm, strV p.to, .int .i64 p.h.pos, .slice A n c, .slice A' n' c'] 39)).drew.heap.size) := HSZ
  have HNB : Hid (some b ≠ (Value.slice Av nv cv).ownBlock) := Lib.hid (fun e => by have := HGE.out b e.symm; omega)
  have HGE' : Hid (∀ k, (Value.slice Av nv cv).ownBlock = some k → b ≤ k) := Lib.hid (fun k e => Nat.le_of_succ_le (HGE.out k e))
  go_region_law (refine step_ownG rfl (.tmp 7) (.tmp 9) rfl Try.underlying44 (v := .slice Av nv cv) (A := some ⟨W.heap.size, 0, none⟩) (m := 1) (c := 1) rfl rfl HO1.out HC1.out rfl ⟨_, rfl, HSR.out⟩ rfl Nat.one_pos HNV1.out HBS.out ?_; intro v' W' ho hg hrow'; have HRW := Lib.hid hrow'; obtain ⟨A2, c2, hv2, hc2⟩ := ownG_slice ho; obtain ⟨n2, hn2⟩ : ∃ n, List.length (l ++ [p]) = n := ⟨_, rfl⟩; rw [hn2] at hv2; clear hn2 hc2 hrow'; subst hv2; have HO2 := Lib.hid ho; have HB2 := Lib.hid (HB1.out.gr hg HNB.out); have HBW2 := Lib.hid (HBW1.out.grown hg (Nat.le_of_lt HSZ.out) HGE'.out); have HG2 := Lib.hid hg; have b1 := HB2.out.cell 0 rfl; have bf1 := HB2.out.frozen 0; clear ho hg)
  all_goals
    go_end0
    have hb2 := HB2.out.set 0 (.slice A2 n2 c2)
    refine ⟨rfl, ⟨_, hb2, OwnG.set HO2.out 0 _, fun g e => ?_⟩, HBW2.out.setCell (p := ⟨b, 0, none⟩) (Nat.le_refl _) _, fun k hk hlt => ?_⟩
    · rcases HRW.out g e with h | h
      · exact HROW.out g h
      · exact fun hs => by have := HSN.out g hs; omega
    · have h1 := HG2.out.block k (HSN.out k hk) (fun e => HROW.out k e.symm hk)
      have h2 := (grownBy_set W' b 0 (.slice A2 n2 c2)).block k (Nat.lt_of_lt_of_le (HSN.out k hk) HG2.out.size) (fun e => by injection e with e; exact (HSW.out k hk).2 e)
      exact h2.trans (h1.trans (HAL1.out k hk hlt))

end Nw
end Go.Proofs.Ytjhjmfodpnipiaa
