/-
  What package tidy's push, pop, top and undoes return (walks).
-/
import Derived.Test.YteiidklmlelabaaTdWords
import Derived.Test.YteiidklmlelabaaFlRef2
import Derived.Test.YteiidklmlelabaaFlWords
import Derived.Deep.RegionLaw
set_option maxRecDepth 100000
namespace Go.Proofs.Yteiidklmlelabaa
open Go.RowKit
set_option linter.unusedVariables false
set_option linter.unusedSimpArgs false
namespace Td
open Tx Df Sq Hk Tr Pr Fl

/-- What is told so far, behind a pointer; the lines below block N. -/
def Stk (W : World) (N b : Nat) (l : List Ch) : Prop := ∃ v, Blk W b 52 #[v] ∧ OwnN W N (b + 1) v l
theorem Stk.below {W W' : World} {N b : Nat} {l : List Ch} (h : Stk W N b l) (hb : Below W.heap.size W W') : Stk W' N b l := by
  obtain ⟨v, h1, h2⟩ := h
  exact ⟨v, h1.below hb h1.lt, h2.below hb⟩
/-- How push and pop end. -/
def StkEnd (w : World) (N b : Nat) (l : List Ch) (e : Ending) (w' : World) : Prop := e = .returned (.tuple #[]) ∧ Stk w' N b l ∧ Below b w w'

set_option maxRecDepth 100000 in
set_option maxHeartbeats 4000000 in
theorem push (N b : Nat) (l : List Ch) (A : Option Addr) (n c : Nat) (A' : Option Addr) (n' c' : Nat) (p : Ch) (w : World) (hs : Stk w N b l) (hN : N ≤ b) (hl : l.length ≤ 1000) (hp : PG w (· < N) A n c A' n' c' p) :
    Calls Try.prog 39 #[.pointer (some ⟨b, 0, none⟩), prV p.k p.nm p.to p.h.pos A n c A' n' c'] w (StkEnd w N b (l ++ [p])) := by
  obtain ⟨v, hb, ho⟩ := hs
  obtain ⟨Av, cv, rfl, hcv⟩ := ownN_slice ho
  obtain ⟨nv, hnv⟩ : ∃ nv, l.length = nv := ⟨_, rfl⟩
  rw [hnv] at hb ho hcv hl
  have HNV := Lib.hid hnv
  have hba : Below w.heap.size w (w.alloc (.cells #[.int .i64 p.k, strV p.nm, strV p.to, .int .i64 p.h.pos, .slice A n c, .slice A' n' c'] 43)) := (Below.refl _ _).alloc (Nat.le_refl _) _
  have HBZ := Lib.hid (Blk.new w 43 #[.int .i64 p.k, strV p.nm, strV p.to, .int .i64 p.h.pos, .slice A n c, .slice A' n' c'])
  have HB := Lib.hid (hb.below hba hb.lt); have HO := Lib.hid (ho.below hba); have HP := Lib.hid (hp.to_ ((alike_below hba).mono fun k hk => Nat.lt_of_lt_of_le hk (Nat.le_trans hN (Nat.le_of_lt hb.lt))))
  have HBW := Lib.hid (hba.mono (Nat.le_of_lt hb.lt))
  have hbl := hb.lt
  clear hnv hba hb ho hp
  go_enter Try.func39, Try.ntmps39
  go_upto_region 1 with fail
  generalize (w.alloc (.cells #[.int .i64 p.k, strV p.nm, strV p.to, .int .i64 p.h.pos, .slice A n c, .slice A' n' c'] 43)) = W at *
  obtain ⟨z, hz⟩ : ∃ z, w.heap.size = z := ⟨_, rfl⟩
  rw [hz] at HBZ hbl ⊢
  clear hz
  have HZ := Lib.hid hbl
  have b0 := HB.out.cell 0 rfl
  have bf := HB.out.frozen 0
  have bz := HBZ.out
  have z0 := bz.cell 0 rfl; have z1 := bz.cell 1 rfl; have z2 := bz.cell 2 rfl; have z3 := bz.cell 3 rfl; have z4 := bz.cell 4 rfl; have z5 := bz.cell 5 rfl
  clear bz
  have hbb := HB.out.lt
  have hba : Below W.heap.size W (W.alloc (.cells #[.int .i64 p.k, strV p.nm, strV p.to, .int .i64 p.h.pos, .slice A n c, .slice A' n' c'] 43)).drew := below_drewN ((Below.refl _ _).alloc (Nat.le_refl _) _) 1
  have HO1 := Lib.hid (HO.out.below hba)
  have HC1 := Lib.hid (cells_one (HP.out.to_ ((alike_below hba).mono fun k hk => by have hk : k < N := hk; omega)))
  have hbn : Blk (W.alloc (.cells #[.int .i64 p.k, strV p.nm, strV p.to, .int .i64 p.h.pos, .slice A n c, .slice A' n' c'] 43)).drew W.heap.size 43 #[.int .i64 p.k, strV p.nm, strV p.to, .int .i64 p.h.pos, .slice A n c, .slice A' n' c'] := (Blk.new W 43 #[.int .i64 p.k, strV p.nm, strV p.to, .int .i64 p.h.pos, .slice A n c, .slice A' n' c']).drewN 1
  have HSR := Lib.hid (one_srcP hbn)
  have HB1 := Lib.hid (HB.out.below hba hbb)
  have HBW1 := Lib.hid (HBW.out.trans (hba.mono (Nat.le_of_lt hbb)))
  have HSZ := Lib.hid (show b < (W.alloc (.cells #[.int .i64 p.k, strV p.nm, strV p.to, .int .i64 p.h.pos, .slice A n c, .slice A' n' c'] 43)).drew.heap.size from Nat.lt_of_lt_of_le hbb hba.size)
  clear hba hbn HO HB HP HBZ HBW
  have hge : ∀ k, (Value.slice Av nv cv).ownBlock = some k → b + 1 ≤ k := fun k e => ownN_ge HO1.out k e
  have HNE : Hid (∀ k, k < N → some k ≠ (Value.slice Av nv cv).ownBlock) := Lib.hid (fun k hk e => by have h1 : k < N := hk; have h2 := hge k e.symm; omega)
  have HNV1 : Hid (l.length + 1 ≤ 100000) := Lib.hid (by have := HNV.out; omega)
  have HBS : Hid (b + 1 ≤ (W.alloc (.cells #[.int .i64 p.k, strV p.nm, strV p.to, .int .i64 p.h.pos, .slice A n c, .slice A' n' c'] 43)).drew.heap.size) := HSZ
  have HNB : Hid (some b ≠ (Value.slice Av nv cv).ownBlock) := Lib.hid (fun e => by have := hge b e.symm; omega)
  have HGE : Hid (∀ k, (Value.slice Av nv cv).ownBlock = some k → b ≤ k) := Lib.hid (fun k e => Nat.le_of_succ_le (hge k e))
  clear hge
  go_region_law (refine step_ownS' rfl (.tmp 7) (.tmp 9) rfl Try.underlying52 (v := .slice Av nv cv) (A := some ⟨W.heap.size, 0, none⟩) (m := 1) (c := 1) rfl rfl HO1.out HC1.out rfl ⟨_, rfl, HSR.out⟩ HNE.out rfl Nat.one_pos HNV1.out HBS.out ?_; intro v' W' ho hg; obtain ⟨A2, c2, hv2, hc2⟩ := ownN_slice ho; obtain ⟨n2, hn2⟩ : ∃ n, List.length (l ++ [p]) = n := ⟨_, rfl⟩; rw [hn2] at hv2; clear hn2 hc2; subst hv2; have HO2 := Lib.hid ho; have HB2 := Lib.hid (HB1.out.gr hg HNB.out); have HBW2 := Lib.hid (HBW1.out.grown hg (Nat.le_of_lt HSZ.out) HGE.out); have b1 := HB2.out.cell 0 rfl; have bf1 := HB2.out.frozen 0; clear ho hg)
  all_goals
    go_end0
    have hb2 := HB2.out.set 0 (.slice A2 n2 c2)
    have hge2 := fun k e => ownN_ge HO2.out k e
    exact ⟨rfl, ⟨_, hb2, OwnS.set HO2.out (b := b) (fun e => by have := hge2 b e.symm; omega) (by omega) 0 _⟩, HBW2.out.setCell (p := ⟨b, 0, none⟩) (Nat.le_refl _) _⟩

set_option maxHeartbeats 4000000 in
theorem pop (N b : Nat) (s : List Ch) (o : Ch) (w : World) (hs : Stk w N b (s ++ [o])) (hN : N ≤ b) (hle : s.length ≤ 1000) :
    Calls Try.prog 38 #[.pointer (some ⟨b, 0, none⟩)] w (StkEnd w N b s) := by
  obtain ⟨v, hb, ho⟩ := hs
  obtain ⟨g, cap, rfl, hbg, hg2⟩ := ownN_addr ho (by simp)
  obtain ⟨j, hj⟩ : ∃ j, s.length = j := ⟨_, rfl⟩
  obtain ⟨n, hn⟩ : ∃ n, (s ++ [o]).length = n := ⟨_, rfl⟩
  rw [hn] at hb ho
  have hcap := (own_len ho).2
  have hnj : j + 1 = n := by rw [List.length_append] at hn; simp at hn; omega
  have hj1 : j ≤ 1000 := by omega
  have hjm : (n : Int) - 1 = (j : Int) := by omega
  have hj0 : (0 : Int) ≤ (j : Int) := by omega
  have hjc : (j : Int) ≤ (cap : Int) := by omega
  have hjc' : j ≤ cap := by omega
  have HO := Lib.hid (OwnS.less ho (by omega) hj); have HB := Lib.hid hb
  have b0 := hb.cell 0 rfl
  have bf := hb.frozen 0
  have HG := Lib.hid hbg; have HLT := Lib.hid hb.lt
  clear hb ho hbg hg2 hn hcap hnj hj
  go_enter Try.func38, Try.ntmps38
  go_wp2_with fail
  go_region
  go_end0
  have hg := HG.out
  have hb := (show Blk (w.setCell ⟨b, 0, none⟩ (.slice (some ⟨g, 0, none⟩) j cap)) b 52 #[.slice (some ⟨g, 0, none⟩) j cap] from HB.out.set 0 _)
  have ho := OwnS.set HO.out (b := b) (fun e => by injection e with e; have e : b = g := e; omega) (by omega) 0 (.slice (some ⟨g, 0, none⟩) j cap)
  exact ⟨rfl, ⟨_, hb.drewN 1, ho.below (below_drewN (Below.refl _ _) 1)⟩, below_drewN ((Below.refl b w).setCell (p := ⟨b, 0, none⟩) (Nat.le_refl _) _) 1⟩

set_option maxHeartbeats 4000000 in
theorem top_no (A : Option Addr) (c : Nat) (w : World) :
    Calls Try.prog 36 #[.slice A 0 c] w (fun e w' => e = .returned (.tuple #[.agg #[.int .i64 0, strV [], strV [], .int .i64 0, .slice none 0 0, .slice none 0 0], .bool false]) ∧ Below w.heap.size w w') := by
  go_enter Try.func36, Try.ntmps36
  go_wp2_with fail
  have b0 := (Blk.new w 43 #[.int .i64 0, .string ⟨#[]⟩, .string ⟨#[]⟩, .int .i64 0, .slice none 0 0, .slice none 0 0]).alloc (.cells #[.int .i64 0, .string ⟨#[]⟩, .string ⟨#[]⟩, .int .i64 0, .slice none 0 0, .slice none 0 0] 43)
  have hb := two_box w (.cells #[.int .i64 0, .string ⟨#[]⟩, .string ⟨#[]⟩, .int .i64 0, .slice none 0 0, .slice none 0 0] 43) (.cells #[.int .i64 0, .string ⟨#[]⟩, .string ⟨#[]⟩, .int .i64 0, .slice none 0 0, .slice none 0 0] 43)
  generalize ((w.alloc (.cells #[.int .i64 0, .string ⟨#[]⟩, .string ⟨#[]⟩, .int .i64 0, .slice none 0 0, .slice none 0 0] 43)).alloc (.cells #[.int .i64 0, .string ⟨#[]⟩, .string ⟨#[]⟩, .int .i64 0, .slice none 0 0, .slice none 0 0] 43)) = W at *
  have u0 := b0.cell 0 rfl; have u1 := b0.cell 1 rfl; have u2 := b0.cell 2 rfl; have u3 := b0.cell 3 rfl; have u4 := b0.cell 4 rfl; have u5 := b0.cell 5 rfl
  refine bodyPost_ret (v := .tuple #[.agg #[.int .i64 0, .string ⟨#[]⟩, .string ⟨#[]⟩, .int .i64 0, .slice none 0 0, .slice none 0 0], .bool false]) (by simp [results, Try.results36, go_sem, u0, u1, u2, u3, u4, u5]) rfl ?_
  exact ⟨rfl, hb⟩

set_option maxHeartbeats 4000000 in
theorem top_last (N base : Nat) (A : Option Addr) (n c : Nat) (s : List Ch) (o : Ch) (w : World) (h : OwnN w N base (.slice A n c) (s ++ [o])) (hN : N ≤ w.heap.size) (hle : s.length ≤ 1000) :
    Calls Try.prog 36 #[.slice A n c] w (fun e w' => ∃ E r k E' r' k', e = .returned (.tuple #[prV o.k o.nm o.to o.h.pos E r k E' r' k', .bool true]) ∧ PG w' (· < N) E r k E' r' k' o ∧ Below w.heap.size w w') := by
  obtain ⟨g, cap, hv, hbg, hg2⟩ := ownN_addr h (by simp)
  injection hv with hv1 hv2 hv3
  subst hv1
  clear hv2 hv3
  obtain ⟨j, hj⟩ : ∃ j, s.length = j := ⟨_, rfl⟩
  obtain ⟨hl, hcap⟩ := own_len h
  have hj1 : j ≤ 1000 := by omega
  have hjm : (n : Int) - 1 = (j : Int) := by rw [← hl, List.length_append]; simp; omega
  have hj0 : (0 : Int) ≤ (j : Int) := by omega
  have hjn : (j : Int) < (n : Int) := by omega
  have hn0 : ((n : Int) == 0) = false := by rw [beq_eq_false_iff_ne]; omega
  obtain ⟨E, r, k, E', r', k', q0, q1, q2, q3, q4, q5, _, q6⟩ := OwnS.elem h hl (k := j) (x := o) (by rw [← hj]; simp)
  have HQ := Lib.hid q6
  clear h hl hbg hcap q6
  go_enter Try.func36, Try.ntmps36
  go_wp2_with fail
  have b0 := Blk.new w 43 #[.int .i64 o.k, .string ⟨o.nm.toArray⟩, .string ⟨o.to.toArray⟩, .int .i64 o.h.pos, .slice E r k, .slice E' r' k']
  have hb : Below w.heap.size w (w.alloc (.cells #[.int .i64 o.k, .string ⟨o.nm.toArray⟩, .string ⟨o.to.toArray⟩, .int .i64 o.h.pos, .slice E r k, .slice E' r' k'] 43)) := (Below.refl _ _).alloc (Nat.le_refl _) _
  generalize (w.alloc (.cells #[.int .i64 o.k, .string ⟨o.nm.toArray⟩, .string ⟨o.to.toArray⟩, .int .i64 o.h.pos, .slice E r k, .slice E' r' k'] 43)) = W at *
  have u0 := b0.cell 0 rfl; have u1 := b0.cell 1 rfl; have u2 := b0.cell 2 rfl; have u3 := b0.cell 3 rfl; have u4 := b0.cell 4 rfl; have u5 := b0.cell 5 rfl
  refine bodyPost_ret (v := .tuple #[.agg #[.int .i64 o.k, .string ⟨o.nm.toArray⟩, .string ⟨o.to.toArray⟩, .int .i64 o.h.pos, .slice E r k, .slice E' r' k'], .bool true]) (by simp [results, Try.results36, go_sem, u0, u1, u2, u3, u4, u5]) rfl ?_
  exact ⟨E, r, k, E', r', k', rfl, HQ.out.to_ (alike_below (hb.mono hN)), hb⟩

end Td
end Go.Proofs.Yteiidklmlelabaa
