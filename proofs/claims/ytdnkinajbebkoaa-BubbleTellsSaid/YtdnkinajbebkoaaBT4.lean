/-
  Words and contracts, joined: PnAll TgOver GK BbRow BbKept BbOwn TgAwake TgLaw PnRefSame TgList BbKeep.
-/
import Derived.Deep.RegionWith
import Derived.Deep.Cut
import Derived.Deep.RegionHeld3
import Derived.Laws.StructEq
import Derived.BigQuiet
import Derived.Deep.RegionLaw
import Derived.Test.YtdnkinajbebkoaaBT3
set_option maxRecDepth 100000
namespace Go.Proofs.Ytdnkinajbebkoaa
open Go.RowKit
set_option linter.unusedVariables false
set_option linter.unusedSimpArgs false
namespace Pn
open Tx Df Sq Hk Tr Pr Fl

theorem allN_split {l : List Nm} {k : Nat} {x : Nm} (hx : l[k]? = some x) : allN l = allN (l.take k) ++ (x.l ++ allN (l.drop (k + 1))) := by
  have h1 : l = l.take k ++ x :: l.drop (k + 1) := by rw [← drop_at hx, List.take_append_drop]
  rw [← allN_cons, ← allN_app, ← h1]
theorem allN_pre {l : List Nm} {k j N : Nat} {x : Nm} (hx : l[k]? = some x) (hN : (allN l).length ≤ N) : (allN (l.take k) ++ x.l.take j).length ≤ N := by
  rw [allN_split hx] at hN
  simp only [List.length_append, List.length_take] at hN ⊢
  omega
theorem allN_len {l : List Nm} {k : Nat} {x : Nm} (hx : l[k]? = some x) : x.l.length ≤ (allN l).length := by
  rw [allN_split hx]
  simp only [List.length_append]
  omega
theorem allN_mem {l : List Nm} {k : Nat} {x : Nm} {q : Ch} (hx : l[k]? = some x) (hq : q ∈ x.l) : q ∈ allN l := by
  rw [allN_split hx]
  exact List.mem_append_right _ (List.mem_append_left _ hq)
theorem allN_next {l : List Nm} {k : Nat} {x : Nm} (hx : l[k]? = some x) : allN (l.take (k + 1)) = allN (l.take k) ++ x.l := by
  rw [take_at hx, allN_app]
  unfold allN
  simp
/-- Blocks made behind w that are not the row. -/
def NewIn (w W : World) (row : Option Nat) : Nat → Prop := fun b => w.heap.size ≤ b ∧ b < W.heap.size ∧ some b ≠ row
theorem newIn_up {w W W' : World} {row : Option Nat} (hs : W.heap.size ≤ W'.heap.size) : ∀ b, NewIn w W row b → NewIn w W' row b := fun b h => ⟨h.1, Nat.lt_of_lt_of_le h.2.1 hs, h.2.2⟩
/-- Changes in a row of one's own, their lines in memory made behind w. -/
abbrev OwnF (w W : World) (v : Value) (l : List Ch) : Prop := OwnS W (NewIn w W v.ownBlock) w.heap.size v l
section
variable {w W W' : World} {v : Value} {l u : List Ch}
theorem ownF_nil (w W : World) : OwnF w W (.slice none 0 0) [] := ⟨[], World.ownsRow_nil _ _ _ _, PCells.nil _ _ _⟩
theorem OwnF.below (h : OwnF w W v l) (hb : Below W.heap.size W W') : OwnF w W' v l := by
  obtain ⟨xs, h1, h2⟩ := h
  exact ⟨xs, own_gr h1 (below_gr_row hb), (h2.to (fun b _ hl => hb.block b hl)).mono (newIn_up hb.size)⟩
theorem run_ownF {ty : TypeId} {m c : Nat} {A : Option Addr} {ys : List Value} (h : OwnF w W v l) (hu : PCells W (NewIn w W v.ownBlock) u ys) (hyl : ys.length = u.length * 6) (hsrc : ∃ a, A = some a ∧ ∀ (j : Nat) x, ys[j]? = some x → W.cell? (a.add j) = some x)
    (hm : u.length = m) (h0 : 0 < m) (hn : l.length + m ≤ 100000) (hbase : w.heap.size ≤ W.heap.size) :
    ∃ v' W', (Builtin.append_ #[43, 43] ty #[v, .slice A m c]).run Try.prog W = .ok v' W' ∧ OwnF w W' v' (l ++ u) ∧ W.grownBy W' v.ownBlock := by
  obtain ⟨i0, hi0, hz0, hz1, hz2⟩ := info_parts info_prim
  obtain ⟨xs, hrow, hF⟩ := h
  have h1 := one6 hu hyl
  obtain ⟨a, rfl, hcell⟩ := hsrc
  obtain ⟨g, cap, W', hr, r1, r2, r3, r4⟩ := run_append_lies (P := Try.prog) (w := W) 43 ty w.heap.size 54 i0 _ 6 96 Try.underlying43 hi0 hz0 hz1 hz2 rfl (by decide) v l.length xs hrow a m c ys (by rw [hyl, hm]) hcell h1 (by omega) (by unfold maxLen; omega) (by omega) hbase W.heap.size rfl
  refine ⟨_, W', hr, ⟨xs ++ ys, by rw [List.length_append, hm]; exact r1, ?_⟩, r2⟩
  have hJ := (hF.append hrow.1 hu)
  have al : Fl.Alike (NewIn w W v.ownBlock) W W' := (alike_gr r2).mono fun b hb => hb.2.2
  refine (hJ.to al).mono fun b hb => ⟨hb.1, Nat.lt_of_lt_of_le hb.2.1 r2.size, ?_⟩
  rcases r3 with r3 | r3
  · rw [r3] at hb; exact hb.2.2
  · intro e
    injection e with e
    have e' : b = g := e
    have := hb.2.1
    omega
theorem wpList_ownF {ops : Array Oper} {rest : List Oper} {o : Oper} {a : Act} {Q : Exit → Act → World → Prop} (hgd : o.guard = none) (s x : Operand)
    (ho : o.op = .call { callee := .builtin .append, args := #[s, x], argTypes := #[43, 43] })
    (w : World) (m c : Nat) (v : Value) (A : Option Addr) (l u : List Ch) (ys : List Value) (hs : a.eval s = v) (hx : a.eval x = .slice A m c) (h : OwnF w W v l) (hu : PCells W (NewIn w W v.ownBlock) u ys) (hyl : ys.length = u.length * 6) (hsrc : ∃ a, A = some a ∧ ∀ (j : Nat) x, ys[j]? = some x → W.cell? (a.add j) = some x)
    (hm : u.length = m) (h0 : 0 < m) (hn : l.length + m ≤ 100000) (hbase : w.heap.size ≤ W.heap.size)
    (hK : ∀ v' W', OwnF w W' v' (l ++ u) → W.grownBy W' v.ownBlock → wpList Try.prog ops Q rest (a.put o.dst v') W') : wpList Try.prog ops Q (o :: rest) a W := by
  refine wpList_plain hgd fun K hK' => ?_
  obtain ⟨v', W', hrun, h2, h3⟩ := run_ownF (ty := o.type) (c := c) h hu hyl hsrc hm h0 hn hbase
  unfold Oper.wp execOp
  simp only [ho, resolve, invoke, builtin, Sem.run_bind, Sem.run_pure, Result.andThen_ok, List.map_toArray, List.map_cons, List.map_nil, hs, hx, hrun]
  exact hK' _ _ (hK v' W' h2 h3)
end

theorem ownC (A : Option Addr) (n c B : Nat) (ls : List (List UInt8)) (w : World) (hn : ls.length = n) (hle : n ≤ 100000) (hB : B ≤ w.heap.size) (hR : RdS w B A ls) :
    Calls Try.prog 61 #[.slice A n c] w (CopyLEnd w n ls) := by
  obtain ⟨j0, hj, hy0, hy1, hy2⟩ := info_parts info_str
  have HR := Lib.hid hR; have HN := Lib.hid hn
  clear hR hn
  go_enter Try.func61, Try.ntmps61
  go_wp2_with (at_builtin; refine wpList_nil' rfl (.const (.slice none 0 0)) (.tmp 3) 50 rfl 9 j0 (.string ⟨#[]⟩) 16 Try.underlying50 hj hy0 hy1 hy2 rfl rfl B A n c (ls.map strV) rfl (by rw [List.length_map]; exact HN.out) HR.out (strs_one _) (by unfold maxLen; omega) (by omega) ?_; intro D1 d1 w1 hA hg; have HA := Lib.hid hA; have HG := Lib.hid hg; clear hA hg)
  go_ret
  obtain ⟨A', c', e, hc, hr⟩ := rd_of_own HA.out
  injection e with e1 e2 e3
  subst e1 e3
  exact ⟨D1, d1, rfl, hc, hr, hi_own HA.out, HG.out⟩

set_option maxRecDepth 100000 in
set_option maxHeartbeats 8000000 in
theorem AllN (A : Option Addr) (n c : Nat) (l : List Nm) (w : World) (hn : l.length = n) (hle : n ≤ 100000) (hT : (allN l).length ≤ 1000) (hl : Lt (allN l)) (hR : RdN w w.heap.size A l) :
    Calls Try.prog 43 #[.slice A n c] w (LPHi w (allN l)) := by
  have HR := Lib.hid hR; have HN := Lib.hid hn; have HL := Lib.hid hl; have HT := Lib.hid hT
  clear hR hn hl hT
  go_enter Try.func43, Try.ntmps43
  go_wp2
  go_loopw [3, 10] (fun v3 i wr => ∃ (k : Nat) (A3 : Option Addr) (m3 f3 : Nat), k ≤ n ∧ i = .int .i64 (k : Int) ∧ v3 = .slice A3 m3 f3 ∧ OwnF w wr (.slice A3 m3 f3) (allN (l.take k)) ∧ Below w.heap.size w wr) (fun _ i _ => n - (intOf i).toNat)
  case atStart => exact ⟨0, none, 0, 0, Nat.zero_le _, rfl, rfl, ownF_nil _ _, Below.refl _ _⟩
  case round =>
    obtain ⟨k, A3, m3, f3, hk, rfl, rfl, hO, hbw⟩ := hrel
    have HBW := Lib.hid hbw; have HO := Lib.hid hO; clear hbw hO
    by_cases hlt : k < n
    · have hki : (k : Int) < (n : Int) := by omega
      obtain ⟨a, x, D, i, j, E, m, d, rfl, hS, hx, c0, c1, c2, c3, c4, c5⟩ := (HR.out.elem (k := k) (by rw [HN.out]; exact hlt))
      have hsb : (a.add (k * 5)).block < w.heap.size := by rw [add_block]; exact hS
      replace c0 := cellB c0 HBW.out hsb; replace c1 := cellB c1 HBW.out hsb; replace c2 := cellB c2 HBW.out hsb; replace c3 := cellB c3 HBW.out hsb; replace c4 := cellB c4 HBW.out hsb
      have HX := Lib.hid hx
      have HBA := Lib.hid (show Below wr.heap.size wr (wr.alloc (.cells #[.int .i64 x.id.1, .int .i64 x.id.2, .slice D i j, strV x.txt, .slice E m d] 45)) from (Below.refl _ _).alloc (Nat.le_refl _) _)
      have HXL := Lib.hid c5.l
      have HXR := Lib.hid c5.r
      have hm1 : m ≤ 1000 := by have h1 := allN_len HX.out; have h2 := HT.out; have h3 := HXL.out; omega
      have HO1 := Lib.hid (HO.out.below HBA.out)
      have HBW1 := Lib.hid (below_mv HBW.out HBA.out)
      clear hx c5 hS HO hsb
      go_wp2_with fail
      clear c0 c1 c2 c3 c4
      generalize (wr.alloc (.cells #[.int .i64 x.id.1, .int .i64 x.id.2, .slice D i j, strV x.txt, .slice E m d] 45)) = w1 at HBA HO1 HBW1 ⊢
      clear HBA HBW
      go_loopw [3, 17] (fun v3 i wr => ∃ (k2 : Nat) (A3 : Option Addr) (m3 f3 : Nat), k2 ≤ m ∧ i = .int .i64 (k2 : Int) ∧ v3 = .slice A3 m3 f3 ∧ OwnF w wr (.slice A3 m3 f3) (allN (l.take k) ++ x.l.take k2) ∧ Below w.heap.size w wr) (fun _ i _ => m - (intOf i).toNat)
      case atStart => exact ⟨0, A3, m3, f3, Nat.zero_le _, rfl, rfl, by rw [List.take_zero, List.append_nil]; exact HO1.out, HBW1.out⟩
      case round =>
        clear HO1 HBW1
        obtain ⟨k2, A4, m4, e4, hk2, rfl, rfl, hO, hbw⟩ := hrel
        have HBW2 := Lib.hid hbw; have HO := Lib.hid hO; clear hbw hO
        by_cases hlt2 : k2 < m
        · have hki2 : (k2 : Int) < (m : Int) := by omega
          obtain ⟨ad, q, B, n1, d1, G, m2, d2, rfl, hS, hq, c0, c1, c2, c3, c4, c5, hp⟩ := (HXR.out.elem (k := k2) (by rw [HXL.out]; exact hlt2))
          have hsb : (ad.add (k2 * 6)).block < w.heap.size := by rw [add_block]; exact hS
          replace c0 := cellB c0 HBW2.out hsb; replace c1 := cellB c1 HBW2.out hsb; replace c2 := cellB c2 HBW2.out hsb; replace c3 := cellB c3 HBW2.out hsb; replace c4 := cellB c4 HBW2.out hsb; replace c5 := cellB c5 HBW2.out hsb
          have HQ := Lib.hid hq
          have HLX := Lib.hid (lt_len hp (HL.out q (allN_mem HX.out (List.mem_of_getElem? hq))))
          have HBX := Lib.hid (Blk.new wr 54 #[.int .i64 q.k, strV q.nm, strV q.to, .int .i64 q.h.pos, .slice B n1 d1, .slice G m2 d2])
          have hba : Below wr.heap.size wr (wr.alloc (.cells #[.int .i64 q.k, strV q.nm, strV q.to, .int .i64 q.h.pos, .slice B n1 d1, .slice G m2 d2] 54)) := (Below.refl _ _).alloc (Nat.le_refl _) _
          have HBW3 := Lib.hid (below_mv HBW2.out hba)
          have HPW := Lib.hid (hp.pv.below HBW3.out); have HBA := Lib.hid hba
          have HLT := Lib.hid (ownS_lt HO.out)
          have HSZ := Lib.hid (show (wr.alloc (.cells #[.int .i64 q.k, strV q.nm, strV q.to, .int .i64 q.h.pos, .slice B n1 d1, .slice G m2 d2] 54)).heap.size = wr.heap.size + 1 by simp)
          clear hq hp hS hba hsb
          go_upto_region 8 with fail
          clear c0 c1 c2 c3 c4 c5
          generalize (wr.alloc (.cells #[.int .i64 q.k, strV q.nm, strV q.to, .int .i64 q.h.pos, .slice B n1 d1, .slice G m2 d2] 54)) = W at HBX HPW HBW3 HSZ HBA ⊢
          obtain ⟨z, hz⟩ : ∃ z, wr.heap.size = z := ⟨_, rfl⟩
          have HZ := Lib.hid hz
          rw [hz] at HBX HSZ HLT ⊢
          clear hz
          have hlx := HLX.out
          have PX : Hid (∀ X, Below W.heap.size W X → Calls Try.prog 61 #[.slice B n1 d1] X (fun e u => ∃ P p, e = .returned (.slice P n1 p) ∧ n1 ≤ p ∧ RdS u u.heap.size P q.h.old ∧ Hi X.heap.size P ∧ X.grownBy u none)) := Lib.hid (fun X hb => ownC B n1 d1 w.heap.size q.h.old X HPW.out.h.l (by omega) (Nat.le_trans HBW3.out.size hb.size) (Rd.below HPW.out.h.r (hb.mono HBW3.out.size)))
          have PY : Hid (∀ X, Below W.heap.size W X → Calls Try.prog 61 #[.slice G m2 d2] X (fun e u => ∃ P p, e = .returned (.slice P m2 p) ∧ m2 ≤ p ∧ RdS u u.heap.size P q.h.new ∧ Hi X.heap.size P ∧ X.grownBy u none)) := Lib.hid (fun X hb => ownC G m2 d2 w.heap.size q.h.new X HPW.out.h.l' (by omega) (Nat.le_trans HBW3.out.size hb.size) (Rd.below HPW.out.h.r' (hb.mono HBW3.out.size)))
          have HD := Lib.hid (show Below W.heap.size W W.drew from below_drewN (Below.refl W.heap.size W) 1)
          obtain ⟨z4, z5⟩ : W.cell? ⟨z, 4, none⟩ = some (.slice B n1 d1) ∧ W.cell? ⟨z, 5, none⟩ = some (.slice G m2 d2) := ⟨HBX.out.cell 4 rfl, HBX.out.cell 5 rfl⟩
          have hzl := HBX.out.lt
          go_region_with (first
            | (go_at_call 61; (with_reducible refine (PX.out W.drew HD.out).mono ?_); rintro e w5 ⟨P5, p5, rfl, hk5, hr5, hh5, hg5⟩; have hb5 := HD.out.trans (below_gr hg5); have B5 := HBX.out.below hb5 HBX.out.lt; have z4' := B5.cell 4 rfl; have z5' := B5.cell 5 rfl; have hzl5 := B5.lt; have HU5 := Lib.hid hb5; have HR5 := Lib.hid hr5; have HH5 := Lib.hid hh5; have HK5 := Lib.hid hk5; clear hg5 hb5 hr5 hh5 hk5 B5)
            | (go_at_call 61; (with_reducible refine (PY.out w5 HU5.out).mono ?_); rintro e w6 ⟨P6, p6, rfl, hk6, hr6, hh6, hg6⟩; have hb6 := below_gr hg6; have hu6 := HU5.out.trans (hb6.mono HU5.out.size); have B6 := HBX.out.below hu6 HBX.out.lt; have y4 := B6.cell 4 rfl; have y5 := B6.cell 5 rfl; have f4 := B6.frozen 4; have f5 := B6.frozen 5; have hzl6 := B6.lt; have HU6 := Lib.hid hu6; have HB6 := Lib.hid hb6; have HR6 := Lib.hid hr6; have HH6 := Lib.hid hh6; have HK6 := Lib.hid hk6; have HB6X := Lib.hid B6; clear hg6 hb6 hu6 hr6 hh6 hk6 B6))
          all_goals
            have b7 : Blk ((w6.setCell ⟨z, 4, none⟩ (.slice P5 n1 p5)).setCell ⟨z, 5, none⟩ (.slice P6 m2 p6)) z 54 #[.int .i64 q.k, strV q.nm, strV q.to, .int .i64 q.h.pos, .slice P5 n1 p5, .slice P6 m2 p6] := (HB6X.out.set 4 _).set 5 _
            have hb7 : Below wr.heap.size wr ((w6.setCell ⟨z, 4, none⟩ (.slice P5 n1 p5)).setCell ⟨z, 5, none⟩ (.slice P6 m2 p6)) := ((HBA.out.trans (HU6.out.mono HBA.out.size)).setCell (p := ⟨z, 4, none⟩) (by rw [HZ.out]; exact Nat.le_refl _) _).setCell (p := ⟨z, 5, none⟩) (by rw [HZ.out]; exact Nat.le_refl _) _
            have al : Fl.Alike (· ≠ z) w6 ((w6.setCell ⟨z, 4, none⟩ (.slice P5 n1 p5)).setCell ⟨z, 5, none⟩ (.slice P6 m2 p6)) := (alike_set w6 z 4 _).trans_ (alike_set _ z 5 _) (by simp)
            have hs5 : z + 1 ≤ w5.heap.size := by have := HSZ.out; have := HU5.out.size; omega
            have hs6 := HB6.out.size
            have r5 : RdG ((w6.setCell ⟨z, 4, none⟩ (.slice P5 n1 p5)).setCell ⟨z, 5, none⟩ (.slice P6 m2 p6)) (fun b => z + 1 ≤ b ∧ b < w6.heap.size) P5 (q.h.old.map strV) := ((rdG_hi (Rd.up (Rd.below HR5.out HB6.out) hs6) HH5.out).mono fun b hb => (by have h1 : W.heap.size ≤ b := hb.1; rw [HSZ.out] at h1; exact ⟨h1, hb.2⟩ : z + 1 ≤ b ∧ b < w6.heap.size)).to (al.mono fun b hb => by omega)
            have r6 : RdG ((w6.setCell ⟨z, 4, none⟩ (.slice P5 n1 p5)).setCell ⟨z, 5, none⟩ (.slice P6 m2 p6)) (fun b => z + 1 ≤ b ∧ b < w6.heap.size) P6 (q.h.new.map strV) := ((rdG_hi HR6.out HH6.out).mono fun b hb => (by have h1 : w5.heap.size ≤ b := hb.1; exact ⟨by omega, hb.2⟩ : z + 1 ≤ b ∧ b < w6.heap.size)).to (al.mono fun b hb => by omega)
            have hsx : ((w6.setCell ⟨z, 4, none⟩ (.slice P5 n1 p5)).setCell ⟨z, 5, none⟩ (.slice P6 m2 p6)).heap.size = w6.heap.size := by simp
            have R5 := Lib.hid r5; have R6 := Lib.hid r6; have HB7 := Lib.hid hb7; have HSX := Lib.hid hsx; have B7 := Lib.hid b7; have HSL := Lib.hid (Nat.le_trans hs5 hs6)
            clear b7 hb7 al hs5 hs6 r5 r6 hsx z4 z5 z4' z5' y4 y5 f4 f5 hzl hzl5 hzl6 PX PY HD HU5 HR5 HH5 HU6 HB6 HR6 HH6 HB6X HBA HBX HSZ
            generalize ((w6.setCell ⟨z, 4, none⟩ (.slice P5 n1 p5)).setCell ⟨z, 5, none⟩ (.slice P6 m2 p6)) = w7 at B7 HB7 R5 R6 HSX ⊢
            have x0 := B7.out.cell 0 rfl; have x1 := B7.out.cell 1 rfl; have x2 := B7.out.cell 2 rfl; have x3 := B7.out.cell 3 rfl; have x4 := B7.out.cell 4 rfl; have x5 := B7.out.cell 5 rfl
            have hzl := B7.out.lt
            have b8 := Blk.new w7 54 #[.int .i64 q.k, strV q.nm, strV q.to, .int .i64 q.h.pos, .slice P5 n1 p5, .slice P6 m2 p6]
            have hb8 : Below wr.heap.size wr (w7.alloc (.cells #[.int .i64 q.k, strV q.nm, strV q.to, .int .i64 q.h.pos, .slice P5 n1 p5, .slice P6 m2 p6] 54)) := HB7.out.alloc HB7.out.size _
            have ho8 := HO.out.below hb8
            have v := HPW.out
            have pg : PG (w7.alloc (.cells #[.int .i64 q.k, strV q.nm, strV q.to, .int .i64 q.h.pos, .slice P5 n1 p5, .slice P6 m2 p6] 54)) (NewIn w (w7.alloc (.cells #[.int .i64 q.k, strV q.nm, strV q.to, .int .i64 q.h.pos, .slice P5 n1 p5, .slice P6 m2 p6] 54)) (Value.slice A4 m4 e4).ownBlock) P5 n1 p5 P6 m2 p6 q := by
              have hout : ∀ b, (z + 1 ≤ b ∧ b < w6.heap.size) → NewIn w (w7.alloc (.cells #[.int .i64 q.k, strV q.nm, strV q.to, .int .i64 q.h.pos, .slice P5 n1 p5, .slice P6 m2 p6] 54)) (Value.slice A4 m4 e4).ownBlock b := fun b hb => ⟨by have h1 := HBW2.out.size; have h2 := HZ.out; omega, by have := HSX.out; simp; omega, fun e => by have := HLT.out b e.symm; omega⟩
              have hal : Fl.Alike (fun b => z + 1 ≤ b ∧ b < w6.heap.size) w7 (w7.alloc (.cells #[.int .i64 q.k, strV q.nm, strV q.to, .int .i64 q.h.pos, .slice P5 n1 p5, .slice P6 m2 p6] 54)) := (alike_below ((Below.refl w7.heap.size w7).alloc (Nat.le_refl _) _)).mono fun b hb => by have := HSX.out; omega
              exact ⟨v.h.l, v.h.l', HK5.out, HK6.out, v.h.m, v.h.m', (R5.out.to hal).mono hout, (R6.out.to hal).mono hout, v.h.p, v.k, v.nm, v.to, v.s, v.s'⟩
            have hc8 := PCells.one pg
            have HB8 := Lib.hid b8; have HW8 := Lib.hid (below_mv HBW2.out hb8); have HO8 := Lib.hid ho8; have HC8 := Lib.hid hc8
            have HLN := Lib.hid (allN_pre (j := k2) HX.out HT.out)
            clear b8 hb8 ho8 v pg hc8
            go_wp2_with (at_builtin; refine wpList_ownF rfl (.tmp 33) (.tmp 35) rfl w 1 1 (.slice A4 m4 e4) (some ⟨w7.heap.size, 0, none⟩) (allN (l.take k) ++ x.l.take k2) [q] _ rfl rfl HO8.out HC8.out rfl ⟨_, rfl, one_srcP HB8.out⟩ rfl (by decide) (by have := HLN.out; omega) HW8.out.size ?_; intro v' W' ho hg)
            obtain ⟨A9, c9, rfl, _⟩ := ownS_slice ho
            refine ⟨⟨k2 + 1, A9, _, c9, by omega, by go_num, rfl, ?_, HW8.out.grown hg HW8.out.size (fun g e => ownS_ge HO8.out g e)⟩, by simp [intOf]; omega⟩
            rw [take_at HQ.out, ← List.append_assoc]
            exact ho
        · go_wp2_with fail
          refine ⟨⟨k + 1, A4, m4, e4, by omega, by go_num, rfl, ?_, HBW2.out⟩, by simp [intOf]; omega⟩
          have ho := HO.out
          have e2 : x.l.take k2 = x.l := List.take_of_length_le (by rw [HXL.out]; omega)
          rw [e2, ← allN_next HX.out] at ho
          exact ho
    · go_wp2
      go_ret
      have e : l.take k = l := List.take_of_length_le (by rw [HN.out]; omega)
      have ho := HO.out
      rw [e] at ho
      obtain ⟨A9, c9, e9, h9⟩ := ownS_slice ho
      rw [e9] at ho ⊢
      exact ⟨A9, c9, rfl, h9, rdP_of_own_hi ho (fun b hb => ⟨hb.1, hb.2.1⟩) (Nat.le_refl _) rfl, HBW.out⟩

end Pn
end Go.Proofs.Ytdnkinajbebkoaa

set_option maxRecDepth 100000
namespace Go.Proofs.Ytdnkinajbebkoaa
open Go.RowKit Go.Shelf
set_option linter.unusedVariables false
set_option linter.unusedSimpArgs false
namespace Tg
open Tx Df Sq Hk Tr Pr Rg Fl Pn
attribute [local go_sem] Oper.semAt_some

/-- The copy of a patch in a box of its own. -/
def FirstEnd (w : World) (q : Nm) (dn m F : Nat) (W : World) : Prop :=
  ∃ D c A e, Blk W F 45 #[.int .i64 q.id.1, .int .i64 q.id.2, .slice D dn c, strV q.txt, .slice A m e] ∧ NG W (fun b => w.heap.size ≤ b ∧ b < W.heap.size ∧ b ≠ F) D dn c A m e q ∧ w.heap.size ≤ F ∧ Below w.heap.size w W
theorem first_d0 (w : World) (c : Array Value) : Below w.heap.size w (w.alloc (.cells c 45)).drew ∧ Blk (w.alloc (.cells c 45)).drew w.heap.size 45 c :=
  ⟨below_drewN ((Below.refl _ _).alloc (Nat.le_refl _) _) 1, (Blk.new w _ _).drewN 1⟩
theorem first_d2 (w : World) (c c' : Array Value) : Below w.heap.size w ((w.alloc (.cells c 45)).alloc (.cells c' 45)).drew ∧ (Below w.heap.size w ((w.alloc (.cells c 45)).alloc (.cells c' 45)).drew ∧ Blk ((w.alloc (.cells c 45)).alloc (.cells c' 45)).drew (w.heap.size + 1) 45 c') ∧ Blk ((w.alloc (.cells c 45)).alloc (.cells c' 45)).drew w.heap.size 45 c := by
  have h := below_drewN (two_box w (.cells c 45) (.cells c' 45)) 1
  have b := Blk.new (w.alloc (.cells c 45)) 45 c'
  rw [World.size_alloc] at b
  exact ⟨h, ⟨h, b.drewN 1⟩, ((Blk.new w 45 c).alloc _).drewN 1⟩
theorem first_all {X : World} {D E : Option Addr} {dn dc m k G : Nat} {q : Nm} (hm : m ≤ 1000) (hl : Lt q.l) (hv : NV X X.heap.size D dn dc E m k q) (hb : Blk X G 45 #[.int .i64 q.id.1, .int .i64 q.id.2, .slice D dn dc, strV q.txt, .slice E m k]) :
    Calls Try.prog 43 #[.slice (some ⟨G, 0, none⟩) 1 1] X (fun e u => ∃ A c, e = .returned (.slice A m c) ∧ m ≤ c ∧ RdP u (Since X u) A q.l ∧ Below X.heap.size X u) := by
  have he : allN [q] = q.l := by unfold allN; simp
  refine (AllN (some ⟨G, 0, none⟩) 1 1 [q] X rfl (by decide) (by rw [he, hv.l]; exact hm) (by rw [he]; exact hl) (rdN_lone hb hv hb.lt)).mono ?_
  rintro e u ⟨A, c, rfl, h1, h2, h3⟩
  rw [he] at h1 h2 ⊢
  rw [hv.l] at h1 ⊢
  exact ⟨A, c, rfl, h1, h2, h3⟩
theorem size4 (w : World) (o0 o1 o2 o3 : Obj) : ((((w.alloc o0).alloc o1).alloc o2).alloc o3).heap.size = w.heap.size + 4 := by simp
theorem size_lt1 (w : World) (o : Obj) : w.heap.size < (w.alloc o).drew.heap.size := by show _ < (w.alloc o).heap.size; simp
theorem size_lt1' (w : World) (o : Obj) : w.heap.size < (w.alloc o).heap.size := by simp
theorem size_lt2 (w : World) (o o' : Obj) : w.heap.size < ((w.alloc o).alloc o').drew.heap.size := by show _ < ((w.alloc o).alloc o').heap.size; simp; omega
theorem size_lt2' (w : World) (o o' : Obj) : w.heap.size + 1 < ((w.alloc o).alloc o').drew.heap.size := by show _ < ((w.alloc o).alloc o').heap.size; simp
theorem below_skip {u v : World} {o : Obj} (h : Below (u.alloc o).heap.size (u.alloc o) v) : Below u.heap.size u v := ((Below.refl _ _).alloc (Nat.le_refl _) o).trans (h.mono (by simp))
theorem first_lay {w0 w1 u1 u2 : World} {D E D2 A1 : Option Addr} {dn dc m k c1 c2 F : Nat} {X Y : World} {q : Nm} (hv : NV w0 w0.heap.size D dn dc E m k q) (hR1 : RdP u1 (Since X u1) A1 q.l) (hR2 : RdG u2 (Since Y u2) D2 (idsV q.deps)) (h12 : Below u1.heap.size u1 u2) (h1F : F < X.heap.size ∨ u1.heap.size ≤ F) (h2F : F < Y.heap.size) (hl1 : w1.heap.size ≤ X.heap.size) (hl2 : w1.heap.size ≤ Y.heap.size) (hFw : w1.heap.size ≤ F) (hU2 : Below w1.heap.size w1 u2) (tf : Blk u2 F 45 #[.int .i64 0, .int .i64 0, .slice none 0 0, .string ⟨#[]⟩, .slice none 0 0]) (hk1 : m ≤ c1) (hk2 : dn ≤ c2) :
    FirstEnd w1 q dn m F (((((u2.setCell ⟨F, 0, none⟩ (.int .i64 q.id.1)).setCell ⟨F, 1, none⟩ (.int .i64 q.id.2)).setCell ⟨F, 2, none⟩ (.slice D2 dn c2)).setCell ⟨F, 3, none⟩ (strV q.txt)).setCell ⟨F, 4, none⟩ (.slice A1 m c1)) := by
  have hs := h12.size
  have al := alike_set5 u2 F (.int .i64 q.id.1) (.int .i64 q.id.2) (.slice D2 dn c2) (strV q.txt) (.slice A1 m c1)
  have r1 := (hR1.to ((alike_below h12).mono fun b hb => hb.2)).to (al.mono fun b hb => by have := hb.1; have := hb.2; omega)
  have r2 := hR2.to (al.mono fun b hb => by have := hb.1; omega)
  refine ⟨D2, c2, A1, c1, blk5 tf _ _ _ _ _, ⟨hv.dl, hk2, hv.dm, r2.mono fun b hb => ?_, hv.tm, hv.l, hk1, hv.m, r1.mono fun b hb => ?_⟩, hFw, below_set5 hU2 hFw _ _ _ _ _⟩
  · have h1 := hb.1; have h2 := hb.2
    exact ⟨by omega, by simp; omega, by omega⟩
  · have h1 := hb.1; have h2 := hb.2
    exact ⟨by omega, by simp; omega, by omega⟩
theorem first_lay_d {w0 w1 u1 u2 : World} {D E D2 A1 : Option Addr} {dn dc m k c1 c2 : Nat} {X Y : World} {q : Nm} (hv : NV w0 w0.heap.size D dn dc E m k q) (hR1 : RdP u1 (Since X u1) A1 q.l) (hR2 : RdG u2 (Since Y u2) D2 (idsV q.deps)) (h12 : Below u1.heap.size u1 u2) (hl1 : w1.heap.size ≤ X.heap.size) (hl2 : w1.heap.size ≤ Y.heap.size) (hU2 : Below w1.heap.size w1 u2) (hk1 : m ≤ c1) (hk2 : dn ≤ c2) :
    FirstEnd w1 q dn m u2.heap.size (u2.alloc (.cells #[.int .i64 q.id.1, .int .i64 q.id.2, .slice D2 dn c2, strV q.txt, .slice A1 m c1] 45)) := by
  have hs := h12.size
  have hba : Below u2.heap.size u2 (u2.alloc (.cells #[.int .i64 q.id.1, .int .i64 q.id.2, .slice D2 dn c2, strV q.txt, .slice A1 m c1] 45)) := (Below.refl _ _).alloc (Nat.le_refl _) _
  have r1 := (hR1.to ((alike_below h12).mono fun b hb => hb.2)).to ((alike_below hba).mono fun b hb => by have := hb.2; omega)
  have r2 := hR2.to ((alike_below hba).mono fun b hb => hb.2)
  refine ⟨D2, c2, A1, c1, Blk.new _ _ _, ⟨hv.dl, hk2, hv.dm, r2.mono fun b hb => ?_, hv.tm, hv.l, hk1, hv.m, r1.mono fun b hb => ?_⟩, hU2.size, hU2.trans (hba.mono hU2.size)⟩
  · have h1 := hb.1; have h2 := hb.2
    exact ⟨by omega, by simp; omega, by omega⟩
  · have h1 := hb.1; have h2 := hb.2
    exact ⟨by omega, by simp; omega, by omega⟩

set_option maxRecDepth 100000 in
set_option maxHeartbeats 4000000 in
theorem OverN (A : Option Addr) (n c : Nat) (l : List Nm) (D : Option Addr) (dn dc : Nat) (E : Option Addr) (m k : Nat) (q : Nm) (w : World) (hle : n ≤ 1000) (hm : m ≤ 1000) (hd : dn ≤ 100000) (hl : Lt q.l) (hls : RdN w w.heap.size A l) (hln : l.length = n) (hall : ∀ p ∈ l, Lt p.l ∧ p.l.length ≤ 1000 ∧ p.deps.length ≤ 100000) (hv : NV w w.heap.size D dn dc E m k q) (xo : Nm) (ys : List Nm) (bo : Bool) (ho : outO (overN l q) = (xo, ys)) (hs : (overN l q).isSome = bo) :
    Calls Try.prog 25 #[.slice A n c, nmV q.id D dn dc q.txt E m k] w (NOverEnd w xo ys bo) := by
  have HO := Lib.hid ho; have HS := Lib.hid hs
  clear ho hs
  refine (callsIn_wide (n := 4)).1 ?_
  refine callsIn_of_wp_marks Try.func25 rfl trivial ?_ rfl
  simp only [Try.ntmps25, List.size_toArray, List.length_cons, List.length_nil, Nat.reduceAdd, Nat.reduceSub, Array.replicate_succ, Array.replicate_zero, List.push_toArray, List.append_toArray, List.nil_append, List.cons_append]
  gi_wp2_with fail
  refine wpIn_wide.2 ?_
  have hs1 := size4 w (.cells #[.int .i64 q.id.1, .int .i64 q.id.2, .slice D dn dc, strV q.txt, .slice E m k] 45) (.cells #[.int .i64 0, .int .i64 0, .slice none 0 0, .string ⟨#[]⟩, .slice none 0 0] 45) (.cells #[.slice none 0 0] 22) (.cells #[.bool false] 4)
  obtain ⟨b0, b1, b2, b3, hba⟩ := four_blk w 45 45 22 4 #[.int .i64 q.id.1, .int .i64 q.id.2, .slice D dn dc, strV q.txt, .slice E m k] #[.int .i64 0, .int .i64 0, .slice none 0 0, .string ⟨#[]⟩, .slice none 0 0] #[.slice none 0 0] #[.bool false]
  generalize ((((w.alloc (.cells #[.int .i64 q.id.1, .int .i64 q.id.2, .slice D dn dc, strV q.txt, .slice E m k] 45)).alloc (.cells #[.int .i64 0, .int .i64 0, .slice none 0 0, .string ⟨#[]⟩, .slice none 0 0] 45)).alloc (.cells #[.slice none 0 0] 22)).alloc (.cells #[.bool false] 4)) = w1 at b0 b1 b2 b3 hba hs1 ⊢
  obtain ⟨z, hz⟩ : ∃ z, w.heap.size = z := ⟨_, rfl⟩
  rw [hz] at b0 b1 b2 b3 hs1 ⊢
  have HZ := Lib.hid hz; have HS1 := Lib.hid hs1
  have HB0 := Lib.hid b0; have HB1 := Lib.hid b1; have HB2 := Lib.hid b2; have HB3 := Lib.hid b3; have HBW := Lib.hid hba
  have HV := Lib.hid (hv.mv hba)
  clear b0 b1 b2 b3 hba hz hv hs1
  have HSB : Hid (∀ X : World, Blk X z 45 #[.int .i64 q.id.1, .int .i64 q.id.2, .slice D dn dc, strV q.txt, .slice E m k] → X.cell? ⟨z, 0, none⟩ = some (.int .i64 q.id.1) ∧ X.cell? ⟨z, 1, none⟩ = some (.int .i64 q.id.2) ∧ X.cell? ⟨z, 2, none⟩ = some (.slice D dn dc) ∧ X.cell? ⟨z, 3, none⟩ = some (strV q.txt) ∧ X.cell? ⟨z, 4, none⟩ = some (.slice E m k)) := Lib.hid (fun X h1 => ⟨h1.cell 0 rfl, h1.cell 1 rfl, h1.cell 2 rfl, h1.cell 3 rfl, h1.cell 4 rfl⟩)
  have HC : Hid (∀ X, Below w1.heap.size w1 X → X.cell? ⟨z, 0, none⟩ = some (.int .i64 q.id.1) ∧ X.cell? ⟨z, 1, none⟩ = some (.int .i64 q.id.2) ∧ X.cell? ⟨z, 2, none⟩ = some (.slice D dn dc) ∧ X.cell? ⟨z, 3, none⟩ = some (strV q.txt) ∧ X.cell? ⟨z, 4, none⟩ = some (.slice E m k)) := Lib.hid (fun X hb => HSB.out X (HB0.out.below hb HB0.out.lt))
  have HF : Hid (∀ (X : World) (F : Nat) (v0 v1 v2 v3 v4 : Value), Below w1.heap.size w1 X → w1.heap.size ≤ F → (((((X.setCell ⟨F, 0, none⟩ v0).setCell ⟨F, 1, none⟩ v1).setCell ⟨F, 2, none⟩ v2).setCell ⟨F, 3, none⟩ v3).setCell ⟨F, 4, none⟩ v4).cell? ⟨z, 0, none⟩ = some (.int .i64 q.id.1) ∧ (((((X.setCell ⟨F, 0, none⟩ v0).setCell ⟨F, 1, none⟩ v1).setCell ⟨F, 2, none⟩ v2).setCell ⟨F, 3, none⟩ v3).setCell ⟨F, 4, none⟩ v4).cell? ⟨z, 1, none⟩ = some (.int .i64 q.id.2) ∧ (((((X.setCell ⟨F, 0, none⟩ v0).setCell ⟨F, 1, none⟩ v1).setCell ⟨F, 2, none⟩ v2).setCell ⟨F, 3, none⟩ v3).setCell ⟨F, 4, none⟩ v4).cell? ⟨z, 2, none⟩ = some (.slice D dn dc) ∧ (((((X.setCell ⟨F, 0, none⟩ v0).setCell ⟨F, 1, none⟩ v1).setCell ⟨F, 2, none⟩ v2).setCell ⟨F, 3, none⟩ v3).setCell ⟨F, 4, none⟩ v4).cell? ⟨z, 3, none⟩ = some (strV q.txt) ∧ (((((X.setCell ⟨F, 0, none⟩ v0).setCell ⟨F, 1, none⟩ v1).setCell ⟨F, 2, none⟩ v2).setCell ⟨F, 3, none⟩ v3).setCell ⟨F, 4, none⟩ v4).cell? ⟨z, 4, none⟩ = some (.slice E m k)) := Lib.hid (fun X F v0 v1 v2 v3 v4 hb hF => HSB.out _ (blk_set5 (HB0.out.below hb HB0.out.lt) (by have := HB0.out.lt; omega) v0 v1 v2 v3 v4))
  have HD0 := Lib.hid (first_d0 w1 #[.int .i64 q.id.1, .int .i64 q.id.2, .slice D dn dc, strV q.txt, .slice E m k]); have HDZ := Lib.hid (first_d0 w1 #[.int .i64 0, .int .i64 0, .slice none 0 0, .string ⟨#[]⟩, .slice none 0 0]); have HDA := Lib.hid (first_d2 w1 #[.int .i64 0, .int .i64 0, .slice none 0 0, .string ⟨#[]⟩, .slice none 0 0] #[.int .i64 q.id.1, .int .i64 q.id.2, .slice D dn dc, strV q.txt, .slice E m k]); have HDB := Lib.hid (first_d2 w1 #[.int .i64 q.id.1, .int .i64 q.id.2, .slice D dn dc, strV q.txt, .slice E m k] #[.int .i64 0, .int .i64 0, .slice none 0 0, .string ⟨#[]⟩, .slice none 0 0])
  have PA : Hid (∀ (X : World) (G : Nat), (Below w1.heap.size w1 X ∧ Blk X G 45 #[.int .i64 q.id.1, .int .i64 q.id.2, .slice D dn dc, strV q.txt, .slice E m k]) → Calls Try.prog 43 #[.slice (some ⟨G, 0, none⟩) 1 1] X (fun e u => ∃ A c, e = .returned (.slice A m c) ∧ m ≤ c ∧ RdP u (Since X u) A q.l ∧ Below X.heap.size X u)) := Lib.hid (fun X G h => first_all hm hl (HV.out.mv h.1) h.2)
  have PW : Hid (∀ (X : World) A c, Below w1.heap.size w1 X → Calls Try.prog 48 #[nmV q.id D dn dc q.txt E m k, .slice A m c] X (WithEnd X q dn A m c)) := Lib.hid (fun X A c hb => With D dn dc E m k q A m c X hd HV.out.dl (RdI.mv HV.out.dr hb))
  have HKD := Lib.hid (HC.out w1.drew (below_drewN (Below.refl _ _) 1))
  go_cut [7, 14, 15] from 16 (fun s7 s14 s15 wx => ∃ F, s7 = .pointer (some ⟨F, 0, none⟩) ∧ s14 = nmV q.id D dn dc q.txt E m k ∧ s15 = nmV q.id D dn dc q.txt E m k ∧ FirstEnd w1 q dn m F wx)
  case first =>
    obtain ⟨z0, z1, z2, z3, z4⟩ := HC.out w1 (Below.refl _ _)
    go_region_held3 (fun X => X.cell? ⟨z, 0, none⟩ = some (.int .i64 q.id.1) ∧ X.cell? ⟨z, 1, none⟩ = some (.int .i64 q.id.2) ∧ X.cell? ⟨z, 2, none⟩ = some (.slice D dn dc) ∧ X.cell? ⟨z, 3, none⟩ = some (strV q.txt) ∧ X.cell? ⟨z, 4, none⟩ = some (.slice E m k))
      (first | (with_reducible exact HKD.out) | (with_reducible exact HC.out _ HD0.out.1) | (with_reducible exact HC.out _ HDZ.out.1) | (with_reducible exact HC.out _ HDA.out.1) | (with_reducible exact HC.out _ HDB.out.1) | (with_reducible exact hS1) | (with_reducible exact hS2) | (with_reducible exact HC.out _ HE1.out) | (with_reducible exact HC.out _ HE2.out) | (with_reducible exact HC.out _ HE3.out) | (with_reducible exact HF.out _ _ _ _ _ _ _ HU2.out hFle))
      (first
        | (go_at_call 43; (with_reducible refine (PA.out (w1.alloc (.cells #[.int .i64 q.id.1, .int .i64 q.id.2, .slice D dn dc, strV q.txt, .slice E m k] 45)).drew _ HD0.out).mono ?_); rintro e u1 ⟨A1, c1, rfl, hk1, hr1, hb1⟩; have hbu := HD0.out.1.trans (hb1.mono HD0.out.1.size); have HE1 := Lib.hid (hbu.alloc hbu.size (.cells #[.int .i64 0, .int .i64 0, .slice none 0 0, .string ⟨#[]⟩, .slice none 0 0] 45)); have hS1 := HC.out u1 hbu; have HU1 := Lib.hid hbu; have HR1 := Lib.hid hr1; have HB1u := Lib.hid hb1; have HK1 := Lib.hid hk1; clear hb1 hbu hr1 hk1)
        | (go_at_call 43; (with_reducible refine (PA.out ((w1.alloc (.cells #[.int .i64 0, .int .i64 0, .slice none 0 0, .string ⟨#[]⟩, .slice none 0 0] 45)).alloc (.cells #[.int .i64 q.id.1, .int .i64 q.id.2, .slice D dn dc, strV q.txt, .slice E m k] 45)).drew _ HDA.out.2.1).mono ?_); rintro e u1 ⟨A1, c1, rfl, hk1, hr1, hb1⟩; have hbu := HDA.out.1.trans (hb1.mono HDA.out.1.size); have tf := HDA.out.2.2.below hb1 HDA.out.2.2.lt; have hFle := Nat.le_refl w1.heap.size; have hS1 := HC.out u1 hbu; have HU1 := Lib.hid hbu; have HR1 := Lib.hid hr1; have HB1u := Lib.hid hb1; have HK1 := Lib.hid hk1; clear hb1 hbu hr1 hk1)
        | (go_at_call 43; (with_reducible refine (PA.out ((w1.alloc (.cells #[.int .i64 q.id.1, .int .i64 q.id.2, .slice D dn dc, strV q.txt, .slice E m k] 45)).alloc (.cells #[.int .i64 0, .int .i64 0, .slice none 0 0, .string ⟨#[]⟩, .slice none 0 0] 45)).drew _ ⟨HDB.out.1, HDB.out.2.2⟩).mono ?_); rintro e u1 ⟨A1, c1, rfl, hk1, hr1, hb1⟩; have hbu := HDB.out.1.trans (hb1.mono HDB.out.1.size); have tf := HDB.out.2.1.2.below hb1 HDB.out.2.1.2.lt; have hFle := Nat.le_succ w1.heap.size; have hS1 := HC.out u1 hbu; have HU1 := Lib.hid hbu; have HR1 := Lib.hid hr1; have HB1u := Lib.hid hb1; have HK1 := Lib.hid hk1; clear hb1 hbu hr1 hk1)
        | (go_at_call 48; (with_reducible refine (PW.out u1 _ _ HU1.out).mono ?_); rintro e u2 ⟨D2, c2, rfl, hk2, hr2, hb2⟩; have hbu := HU1.out.trans (hb2.mono HU1.out.size); have hS2 := HC.out u2 hbu; have HU2 := Lib.hid hbu; have HB2u := Lib.hid hb2; have HR2 := Lib.hid hr2; have HK2 := Lib.hid hk2; have HE2 := Lib.hid (hbu.alloc hbu.size (.cells #[.int .i64 q.id.1, .int .i64 q.id.2, .slice D2 dn c2, strV q.txt, .slice A1 m c1] 45)); have HE3 := Lib.hid (hbu.alloc hbu.size (.cells #[.int .i64 0, .int .i64 0, .slice none 0 0, .string ⟨#[]⟩, .slice none 0 0] 45)); first | (have tf2 := tf.below hb2 tf.lt; have y0 := tf2.cell 0 rfl; have y1 := tf2.cell 1 rfl; have y2 := tf2.cell 2 rfl; have y3 := tf2.cell 3 rfl; have y4 := tf2.cell 4 rfl; have fz0 := tf2.frozen 0; have fz1 := tf2.frozen 1; have fz2 := tf2.frozen 2; have fz3 := tf2.frozen 3; have fz4 := tf2.frozen 4; have ylt := tf2.lt; clear hb2 hbu hr2 hk2) | (clear hb2 hbu hr2 hk2))
        | (go_at_call 48; (with_reducible refine (PW.out (u1.alloc (.cells #[.int .i64 0, .int .i64 0, .slice none 0 0, .string ⟨#[]⟩, .slice none 0 0] 45)) _ _ HE1.out).mono ?_); rintro e u2 ⟨D2, c2, rfl, hk2, hr2, hb2⟩; have hbu := HE1.out.trans (hb2.mono HE1.out.size); have hS2 := HC.out u2 hbu; have HU2 := Lib.hid hbu; have HB2u := Lib.hid hb2; have HR2 := Lib.hid hr2; have HK2 := Lib.hid hk2; have tf := Blk.new u1 45 #[.int .i64 0, .int .i64 0, .slice none 0 0, .string ⟨#[]⟩, .slice none 0 0]; have hFle := HU1.out.size; have tf2 := tf.below hb2 tf.lt; have y0 := tf2.cell 0 rfl; have y1 := tf2.cell 1 rfl; have y2 := tf2.cell 2 rfl; have y3 := tf2.cell 3 rfl; have y4 := tf2.cell 4 rfl; have fz0 := tf2.frozen 0; have fz1 := tf2.frozen 1; have fz2 := tf2.frozen 2; have fz3 := tf2.frozen 3; have fz4 := tf2.frozen 4; have ylt := tf2.lt; clear hb2 hbu hr2 hk2))
    all_goals (try go_wp2_with fail)
    all_goals go_meet
    (with_reducible exact ⟨_, rfl, rfl, rfl, first_lay_d HV.out HR1.out HR2.out HB2u.out (Nat.le_of_lt (size_lt1 w1 _)) HU1.out.size HU2.out HK1.out HK2.out⟩)
    (with_reducible exact ⟨_, rfl, rfl, rfl, first_lay HV.out HR1.out HR2.out (below_skip HB2u.out) (.inr (Nat.le_refl _)) (size_lt1' u1 _) (Nat.le_of_lt (size_lt1 w1 _)) (Nat.le_trans HU1.out.size (Nat.le_of_lt (size_lt1' u1 _))) HU1.out.size HU2.out tf2 HK1.out HK2.out⟩)
    (with_reducible exact ⟨_, rfl, rfl, rfl, first_lay HV.out HR1.out HR2.out HB2u.out (.inl (size_lt2' w1 _ _)) (Nat.lt_of_lt_of_le tf.lt (Nat.le_refl _)) (Nat.le_of_lt (size_lt2 w1 _ _)) HU1.out.size hFle HU2.out tf2 HK1.out HK2.out⟩)
    (with_reducible exact ⟨_, rfl, rfl, rfl, first_lay HV.out HR1.out HR2.out HB2u.out (.inl (size_lt2 w1 _ _)) (Nat.lt_of_lt_of_le tf.lt (Nat.le_refl _)) (Nat.le_of_lt (size_lt2 w1 _ _)) HU1.out.size hFle HU2.out tf2 HK1.out HK2.out⟩)
  case rest =>
    obtain ⟨F, rfl, rfl, rfl, D1, e1, E1, k1, hbf, hng, hFw, hb⟩ := hcut
    clear HSB HC HF HD0 HDZ HDA HDB PA PW HKD
    obtain ⟨j0, hj, hy0, hy1, hy2⟩ := info_parts info_named
    have hmk : ∀ W : World, (Instr.makeSlice 22 (.int .i64 (n : Int)) (.int .i64 (n : Int))).run Try.prog W = .ok (.slice (some ⟨W.heap.size, 0, none⟩) n n) (W.alloc (.cells (madeCells #[.int .i64 0, .int .i64 0, .slice none 0 0, .string ⟨#[]⟩, .slice none 0 0] (n * 5)) 45)) := by
      intro W
      have := run_make (P := Try.prog) W 22 45 j0 _ Try.underlying22 hj hy0 .i64 .i64 (n : Int) (n : Int) (by omega) (by omega) (by rw [hy2]; omega) (by omega)
      simp only [Int.toNat_natCast, hy1] at this
      exact this
    gi_wp2_with fail
    refine ⟨trivial, ?_⟩
    refine (backN_in 3 A n c _).mono ?_
    rintro e w' ⟨rfl, rfl⟩
    gi_wp2
    have hst := over_start (A := A) (l := l) (n := n) HZ.out (by rw [← HS1.out]) HBW.out HB1.out HB2.out HB3.out hbf hng hFw hb hls hln hle hl c
    dsimp only [noC] at hst
    obtain ⟨g, hg⟩ : ∃ g, wc.heap.size = g := ⟨_, rfl⟩
    rw [hg] at hst
    have hFg : F < g := by rw [← hg]; exact hbf.lt
    have hz4 : z + 4 ≤ F := by rw [← HS1.out]; exact hFw
    rw [hg]
    generalize (((wc.alloc (.cells (madeCells #[.int .i64 0, .int .i64 0, .slice none 0 0, .string ⟨#[]⟩, .slice none 0 0] (n * 5)) 45)).alloc (.cells #[.slice (some ⟨g, 0, none⟩) n n] 22)).alloc (.cells #[.slice A n c] 22)) = w5 at hst ⊢
    obtain ⟨hst, hbs, hsz, hc5⟩ := hst
    clear hmk hbf hng hb hg HB1 HB2 HB3 HB0 HV hj hy0 hy1 hy2
    have HZW : w.heap.size = z := HZ.out
    have HLN := Lib.hid hln; have HALL := Lib.hid hall
    clear hln hall
    refine range_law (n := 4) (gf := 56) (lb := #[.pointer (some ⟨g + 1 + 1, 0, none⟩)]) rfl (enters_of Try.func56 (by kernel_rfl) rfl) (Free := Plain) (fun _ h => h)
      (backN_gives 3 (g + 1 + 1) c n A (by omega) w5 hbs hc5) kpN_t (kpN_b (by rw [hsz]; omega)) (fun x vals W h => by obtain ⟨_, _, _, _, _, _, _, _, rfl, _⟩ := h; rfl)
      (OvJ w z F g n A l q dn m) (OvX w z l q) (ovJ_ab (by rw [hsz]; omega)) (ovX_ab (by rw [hsz]; omega)) hst
      (fun i a' X => ∃ b v0 v1 v2 v3 v4, a' = { tmps := #[.slice A n c, nmV q.id D dn dc q.txt E m k, undef, .pointer (some ⟨z, 0, none⟩), .pointer (some ⟨z + 1, 0, none⟩), .pointer (some ⟨z + 1 + 1, 0, none⟩), .pointer (some ⟨z + 1 + 1 + 1, 0, none⟩), .pointer (some ⟨F, 0, none⟩), .pointer (some ⟨g + 1, 0, none⟩), .int .i64 (i : Int), .pointer (some ⟨b, 0, none⟩), undef, undef, undef, nmV q.id D dn dc q.txt E m k, nmV q.id D dn dc q.txt E m k, u16, u17, u18, .slice A n c, .int .i64 (n : Int), .slice (some ⟨g, 0, none⟩) n n, .slice A n c, .func (.func 56) #[] #[.pointer (some ⟨g + 1 + 1, 0, none⟩)], .int .i64 (i : Int), .agg #[v0, v1, v2, v3, v4], u26, u27, u28, u29, u30, u31, u32, u33, u34, u35, u36, u37, u38, u39, u40, u41, u42], defers := [] } ∧ EN n A i #[.int .i64 (i : Int), .agg #[v0, v1, v2, v3, v4]] X ∧ Blk X b 45 #[v0, v1, v2, v3, v4])
      (fun i a' => ab_ex fun b => ab_ex fun v0 => ab_ex fun v1 => ab_ex fun v2 => ab_ex fun v3 => ab_ex fun v4 => Ab.and (ab_pure _ _ _) (Ab.and ab_EN (ab_blk fun _ => _))) ?assign ?body ?done ?stop
    case assign =>
      rintro y pre i vals X K hi hEL hK
      obtain ⟨x, post, Dx, dcx, Ex, kx, hI⟩ := id hi
      obtain ⟨p, D', dn', dc', E', m', k', hp, rfl, hv⟩ := EN.rd hEL hI.ls HLN.out
      clear hI hp hv
      gi_wp2
      exact hK _ _ ((KeepsOthers.alloc X _).from _) (kpN_new (World.grownBy_alloc X _ none)) ((ovJ_ab (Nat.le_refl _)).alloc _ hi) ⟨_, _, _, _, _, _, rfl, ab_EN.alloc (s := ()) (B := 0) _ hEL, Blk.new _ _ _⟩
    case body =>
      rintro y pre pst i a' X hfull hI ⟨b, v0, v1, v2, v3, v4, rfl, hEL, hb⟩
      have hi := dn_split hfull
      clear hfull
      obtain ⟨x, post, Dx, dcx, Ex, kx, hI⟩ := hI
      rw [show n - pre.length = i + 1 by omega] at hI
      obtain ⟨p, D', dn', dc', E', m', k', hp, hv, hpv⟩ := EN.rd hEL hI.ls HLN.out
      obtain ⟨rfl, rfl, rfl, rfl, rfl⟩ := valsN_eq hv
      have HPL := Lib.hid hp; have HI := Lib.hid hI; have HB := Lib.hid hb
      have HLP := Lib.hid (HALL.out p (List.mem_of_getElem? hp))
      have HPV := Lib.hid (hpv.up (show z ≤ X.heap.size by have := hI.r0.lt; omega))
      clear hpv hp hv hEL
      obtain ⟨x1, y1, ho⟩ : ∃ x1 y1, outN (passN p x) = (x1, y1) := ⟨_, _, rfl⟩
      obtain ⟨bo, hbo⟩ : ∃ bo, (passN p x).isSome = bo := ⟨_, rfl⟩
      have HO := Lib.hid ho; have HBO := Lib.hid hbo
      clear ho hbo
      have PC := Lib.hid (PassN D' dn' dc' E' m' k' Dx dn dcx Ex m kx p x x1 y1 X bo (by rw [← HPV.out.l]; exact HLP.out.2.1) hm (by rw [← HPV.out.dl]; exact HLP.out.2.2) hd HLP.out.1 hI.lx HPV.out (hI.ng.mono but_lt).nv HO.out HBO.out)
      have x0 := hb.cell 0 rfl; have x1' := hb.cell 1 rfl; have x2 := hb.cell 2 rfl; have x3 := hb.cell 3 rfl; have x4 := hb.cell 4 rfl
      have hbf := hI.bf
      have q0 := hbf.cell 0 (u := .int .i64 x.id.1) rfl; have q1 := hbf.cell 1 (u := .int .i64 x.id.2) rfl; have q2 := hbf.cell 2 (u := .slice Dx dn dcx) rfl; have q3 := hbf.cell 3 (u := strV x.txt) rfl; have q4 := hbf.cell 4 (u := .slice Ex m kx) rfl
      have l0 := hbf.lt
      clear hI hb hbf
      gi_wp2_with fail
      refine ⟨trivial, CallsIn.inRound y (callsIn_wide.2 (PC.out.mono ?_))⟩
      rintro e w2 ⟨D1, d1, c1, E1, m1, k1, D2, d2, c2, E2, m2, k2, rfl, n1, n2, hb2⟩
      clear x0 x1' x2 x3 x4 q0 q1 q2 q3 q4 PC l0
      have hbb := HI.out.bb; have hbf := HI.out.bf; have hr0 := HI.out.r0; have hr1 := HI.out.r1; have hr2 := HI.out.r2
      replace hbb := hbb.below hb2 hbb.lt; replace hbf := hbf.below hb2 hbf.lt; replace hr0 := hr0.below hb2 hr0.lt; replace hr1 := hr1.below hb2 hr1.lt; replace hr2 := hr2.below hb2 hr2.lt
      have HBB := Lib.hid hbb; have HBF := Lib.hid hbf; have HB2 := Lib.hid hb2; have HN1 := Lib.hid n1; have HN2 := Lib.hid n2
      clear n1 n2 hb2
      cases bo with
      | false =>
        have r0 := hr0.cell 0 (u := .int .i64 0) rfl; have r1 := hr0.cell 1 (u := .int .i64 0) rfl; have r2 := hr0.cell 2 (u := .slice none 0 0) rfl; have r3 := hr0.cell 3 (u := .string ⟨#[]⟩) rfl; have r4 := hr0.cell 4 (u := .slice none 0 0) rfl
        have f0 := hr0.frozen 0; have f1 := hr0.frozen 1; have f2 := hr0.frozen 2; have f3 := hr0.frozen 3; have f4 := hr0.frozen 4
        have s0 := hr1.cell 0 (u := .slice none 0 0) rfl; have g0 := hr1.frozen 0
        have t0 := hr2.cell 0 (u := .bool false) rfl; have h0 := hr2.frozen 0
        have hlt0 := hbf.lt; have hlt1 := hr0.lt; have hlt := hr1.lt; have hlt2 := hr2.lt; have hltz := Nat.lt_of_succ_lt hr0.lt
        clear hbb hbf hr0 hr1 hr2
        gi_wp2_with fail
        have HNN : Hid (passN p x = none) := Lib.hid (by
          have h := HBO.out
          cases hp : passN p x with
          | none => rfl
          | some z => rw [hp] at h; cases h)
        clear r0 r1 r2 r3 r4 f0 f1 f2 f3 f4 s0 g0 t0 h0 hlt0 hlt1 hlt hlt2 hltz
        exact over_no HI.out HB2.out HPL.out HNN.out _ _
      | true =>
        clear hbb hbf hr0 hr1 hr2
        have HSM : Hid (passN p x = some (x1, y1)) := Lib.hid (by
          have h := HBO.out; have ho := HO.out
          cases hp : passN p x with
          | none => rw [hp] at h; cases h
          | some z => rw [hp] at ho; exact congrArg some ho)
        obtain ⟨hid, hdp, htx, hll⟩ := (passN_keeps HSM.out).1
        obtain rfl : dn = d1 := by rw [← HN1.out.dl, hdp, HI.out.ng.dl]
        obtain rfl : m = m1 := by rw [← HN1.out.l, hll, HI.out.ng.l]
        clear hid hdp htx hll
        gi_wp2_with fail
        have b3 := (Blk.new w2 45 #[.int .i64 x1.id.1, .int .i64 x1.id.2, .slice D1 dn c1, strV x1.txt, .slice E1 m k1]).alloc (.cells #[.int .i64 y1.id.1, .int .i64 y1.id.2, .slice D2 d2 c2, strV y1.txt, .slice E2 m2 k2] 45)
        have b4 := Blk.new (w2.alloc (.cells #[.int .i64 x1.id.1, .int .i64 x1.id.2, .slice D1 dn c1, strV x1.txt, .slice E1 m k1] 45)) 45 #[.int .i64 y1.id.1, .int .i64 y1.id.2, .slice D2 d2 c2, strV y1.txt, .slice E2 m2 k2]
        have hb4 : Below w2.heap.size w2 ((w2.alloc (.cells #[.int .i64 x1.id.1, .int .i64 x1.id.2, .slice D1 dn c1, strV x1.txt, .slice E1 m k1] 45)).alloc (.cells #[.int .i64 y1.id.1, .int .i64 y1.id.2, .slice D2 d2 c2, strV y1.txt, .slice E2 m2 k2] 45)) := two_box _ _ _
        simp only [World.size_alloc] at b4
        generalize ((w2.alloc (.cells #[.int .i64 x1.id.1, .int .i64 x1.id.2, .slice D1 dn c1, strV x1.txt, .slice E1 m k1] 45)).alloc (.cells #[.int .i64 y1.id.1, .int .i64 y1.id.2, .slice D2 d2 c2, strV y1.txt, .slice E2 m2 k2] 45)) = w4 at b3 b4 hb4 ⊢
        have hw4 := hb4.size
        generalize hz2 : w2.heap.size = z2 at b3 b4 hw4 ⊢
        have hz0 : g + 1 < z2 := by rw [← hz2]; exact HBB.out.lt
        have HB4 := Lib.hid hb4
        have k4 := HBB.out.below hb4 HBB.out.lt; have qb := HBF.out.below hb4 HBF.out.lt
        have HSB : Hid (∀ Y : World, Blk Y (g + 1) 22 #[.slice (some ⟨g, 0, none⟩) n n] → Blk Y z2 45 #[.int .i64 x1.id.1, .int .i64 x1.id.2, .slice D1 dn c1, strV x1.txt, .slice E1 m k1] → Blk Y (z2 + 1) 45 #[.int .i64 y1.id.1, .int .i64 y1.id.2, .slice D2 d2 c2, strV y1.txt, .slice E2 m2 k2] → Y.cell? ⟨g + 1, 0, none⟩ = some (.slice (some ⟨g, 0, none⟩) n n) ∧ Y.cell? ⟨z2, 0, none⟩ = some (.int .i64 x1.id.1) ∧ Y.cell? ⟨z2, 1, none⟩ = some (.int .i64 x1.id.2) ∧ Y.cell? ⟨z2, 2, none⟩ = some (.slice D1 dn c1) ∧ Y.cell? ⟨z2, 3, none⟩ = some (strV x1.txt) ∧ Y.cell? ⟨z2, 4, none⟩ = some (.slice E1 m k1) ∧ Y.cell? ⟨z2 + 1, 0, none⟩ = some (.int .i64 y1.id.1) ∧ Y.cell? ⟨z2 + 1, 1, none⟩ = some (.int .i64 y1.id.2) ∧ Y.cell? ⟨z2 + 1, 2, none⟩ = some (.slice D2 d2 c2) ∧ Y.cell? ⟨z2 + 1, 3, none⟩ = some (strV y1.txt) ∧ Y.cell? ⟨z2 + 1, 4, none⟩ = some (.slice E2 m2 k2)) := Lib.hid (fun Y h1 h2 h3 => ⟨h1.cell 0 rfl, h2.cell 0 rfl, h2.cell 1 rfl, h2.cell 2 rfl, h2.cell 3 rfl, h2.cell 4 rfl, h3.cell 0 rfl, h3.cell 1 rfl, h3.cell 2 rfl, h3.cell 3 rfl, h3.cell 4 rfl⟩)
        have MID := Lib.hid (over_mid (w4 := w4) HI.out HB2.out hb4 HN1.out HN2.out)
        have HK6 := Lib.hid (blk_set5 k4 (g := F) (by omega) (.int .i64 x1.id.1) (.int .i64 x1.id.2) (.slice D1 dn c1) (strV x1.txt) (.slice E1 m k1))
        have HX6 := Lib.hid (blk_set5 b3 (g := F) (by omega) (.int .i64 x1.id.1) (.int .i64 x1.id.2) (.slice D1 dn c1) (strV x1.txt) (.slice E1 m k1))
        have HY6 := Lib.hid (blk_set5 b4 (g := F) (by omega) (.int .i64 x1.id.1) (.int .i64 x1.id.2) (.slice D1 dn c1) (strV x1.txt) (.slice E1 m k1))
        obtain ⟨kk0, e0, e1, e2, e3, e4, yy0, yy1, yy2, yy3, yy4⟩ := HSB.out w4 k4 b3 b4
        have q0 := qb.cell 0 (u := .int .i64 x.id.1) rfl; have q1 := qb.cell 1 (u := .int .i64 x.id.2) rfl; have q2 := qb.cell 2 (u := .slice Dx dn dcx) rfl; have q3 := qb.cell 3 (u := strV x.txt) rfl; have q4 := qb.cell 4 (u := .slice Ex m kx) rfl
        have f0 := qb.frozen 0; have f1 := qb.frozen 1; have f2 := qb.frozen 2; have f3 := qb.frozen 3; have f4 := qb.frozen 4
        have hqlt := qb.lt
        have hin : (i : Int) < (n : Int) := by omega
        clear k4 b3 b4 hb4 qb
        refine round_held (S := fun Y : World => Y.cell? ⟨g + 1, 0, none⟩ = some (.slice (some ⟨g, 0, none⟩) n n) ∧ Y.cell? ⟨z2, 0, none⟩ = some (.int .i64 x1.id.1) ∧ Y.cell? ⟨z2, 1, none⟩ = some (.int .i64 x1.id.2) ∧ Y.cell? ⟨z2, 2, none⟩ = some (.slice D1 dn c1) ∧ Y.cell? ⟨z2, 3, none⟩ = some (strV x1.txt) ∧ Y.cell? ⟨z2, 4, none⟩ = some (.slice E1 m k1) ∧ Y.cell? ⟨z2 + 1, 0, none⟩ = some (.int .i64 y1.id.1) ∧ Y.cell? ⟨z2 + 1, 1, none⟩ = some (.int .i64 y1.id.2) ∧ Y.cell? ⟨z2 + 1, 2, none⟩ = some (.slice D2 d2 c2) ∧ Y.cell? ⟨z2 + 1, 3, none⟩ = some (strV y1.txt) ∧ Y.cell? ⟨z2 + 1, 4, none⟩ = some (.slice E2 m2 k2)) (by kernel_rfl) (by kernel_rfl) ?hq ?hS (fun hS0 => ?_)
        case hq => rintro ⟨_, _, h⟩; exact h
        case hS => exact ⟨kk0, e0, e1, e2, e3, e4, yy0, yy1, yy2, yy3, yy4⟩
        refine wpAnyH_take (i := 0) (v := ?_) rfl (by kernel_rfl) (by kernel_rfl) (by kernel_rfl) (fun _ _ _ h => h) (Or.inl ⟨by rfl, ?_⟩) hS0 ?_
        rotate_left
        · intro Y hY
          obtain ⟨s0, s1, s2, s3, s4, s5, s6, s7, s8, s9, s10⟩ := hY
          go_simp
          try with_reducible rfl
        simp only [Act.put, List.getElem_toArray, List.getElem_cons_succ, List.getElem_cons_zero, List.setIfInBounds_toArray, List.set_cons_succ, List.set_cons_zero]
        refine wpAnyH_take (i := 1) (v := ?_) rfl (by kernel_rfl) (by kernel_rfl) (by kernel_rfl) (fun _ _ _ h => h) (Or.inl ⟨by rfl, ?_⟩) hS0 ?_
        rotate_left
        · intro Y hY
          obtain ⟨s0, s1, s2, s3, s4, s5, s6, s7, s8, s9, s10⟩ := hY
          go_simp
          try with_reducible rfl
        simp only [Act.put, List.getElem_toArray, List.getElem_cons_succ, List.getElem_cons_zero, List.setIfInBounds_toArray, List.set_cons_succ, List.set_cons_zero]
        refine wpAnyH_take (i := 2) (v := ?_) rfl (by kernel_rfl) (by kernel_rfl) (by kernel_rfl) (fun _ _ _ h => h) (Or.inl ⟨by rfl, ?_⟩) hS0 ?_
        rotate_left
        · intro Y hY
          obtain ⟨s0, s1, s2, s3, s4, s5, s6, s7, s8, s9, s10⟩ := hY
          go_simp
          try with_reducible rfl
        simp only [Act.put, List.getElem_toArray, List.getElem_cons_succ, List.getElem_cons_zero, List.setIfInBounds_toArray, List.set_cons_succ, List.set_cons_zero]
        refine wpAnyH_take (i := 3) (v := ?_) rfl (by kernel_rfl) (by kernel_rfl) (by kernel_rfl) (fun _ _ _ h => h) (Or.inl ⟨by rfl, ?_⟩) hS0 ?_
        rotate_left
        · intro Y hY
          obtain ⟨s0, s1, s2, s3, s4, s5, s6, s7, s8, s9, s10⟩ := hY
          go_simp
          try with_reducible rfl
        simp only [Act.put, List.getElem_toArray, List.getElem_cons_succ, List.getElem_cons_zero, List.setIfInBounds_toArray, List.set_cons_succ, List.set_cons_zero]
        refine wpAnyH_ready (rs := [4]) (by kernel_rfl) (by simp) ?_
        refine AllReadyH.cons rfl (fun K1 hK => ?_) AllReadyH.nil
        go_simp
        clear hS0 kk0 e0 e1 e2 e3 e4 yy0 yy1 yy2 yy3 yy4 q0 q1 q2 q3 q4 f0 f1 f2 f3 f4 hqlt
        obtain ⟨a1, a2, a3, a4, a5, a6, a7, a8, a9, a10, a11, a12⟩ := MID.out
        clear MID
        generalize (World.setCell (World.setCell (World.setCell (World.setCell (World.setCell w4 ⟨F, 0, none⟩ (.int .i64 x1.id.1)) ⟨F, 1, none⟩ (.int .i64 x1.id.2)) ⟨F, 2, none⟩ (.slice D1 dn c1)) ⟨F, 3, none⟩ (strV x1.txt)) ⟨F, 4, none⟩ (.slice E1 m k1)) = w6 at *
        refine hK.out _ _ (HSB.out w6.drew (HK6.out.drewN 1) (HX6.out.drewN 1) (HY6.out.drewN 1)) (fun hS1 => ?_)
        clear hK K1
        have hlrow := rep_len HI.out.eq HLN.out (by omega)
        obtain ⟨_, _, _, _, _, _, c0, c1', c2', c3', c4', cf, _⟩ := a1.elem (k := i) (x := noN) hlrow (by rw [List.getElem?_append_left (by simp), List.getElem?_replicate, if_pos (by omega)])
        have f0 := cf (i * 5); have f1 := cf (i * 5 + 1); have f2 := cf (i * 5 + 2); have f3 := cf (i * 5 + 3); have f4 := cf (i * 5 + 4)
        have HF := Lib.hid (over_fin HI.out.pos HI.out.eq HI.out.lx HPL.out HLP.out.1 HLN.out HSM.out a1 a2 a3 a4 a5 a6 a7 a8 a9 a10)
        have HA := Lib.hid (And.intro a11 a12)
        clear a1 a2 a3 a4 a5 a6 a7 a8 a9 a10 a11 a12 cf
        refine wpAnyH_take (i := 5) (v := ?_) rfl (by kernel_rfl) (by kernel_rfl) (by kernel_rfl) (fun _ _ _ h => h) (Or.inl ⟨by rfl, ?_⟩) hS1 ?_
        rotate_left
        · intro Y hY
          obtain ⟨s0, s1, s2, s3, s4, s5, s6, s7, s8, s9, s10⟩ := hY
          go_simp
          try with_reducible rfl
        simp only [Act.put, List.getElem_toArray, List.getElem_cons_succ, List.getElem_cons_zero, List.setIfInBounds_toArray, List.set_cons_succ, List.set_cons_zero]
        refine wpAnyH_ready (rs := [6]) (by kernel_rfl) (by simp) ?_
        refine AllReadyH.cons rfl (fun K1 hK => ?_) AllReadyH.nil
        go_simp
        obtain ⟨t1, t2, t3⟩ := HF.out
        have hk9 := blk_row5 HK6.out (g := g) (by omega) i (.int .i64 y1.id.1) (.int .i64 y1.id.2) (.slice D2 d2 c2) (strV y1.txt) (.slice E2 m2 k2)
        have hx9 := blk_row5 HX6.out (g := g) (by omega) i (.int .i64 y1.id.1) (.int .i64 y1.id.2) (.slice D2 d2 c2) (strV y1.txt) (.slice E2 m2 k2)
        have hy9 := blk_row5 HY6.out (g := g) (by omega) i (.int .i64 y1.id.1) (.int .i64 y1.id.2) (.slice D2 d2 c2) (strV y1.txt) (.slice E2 m2 k2)
        clear HF c0 c1' c2' c3' c4' f0 f1 f2 f3 f4
        generalize (World.setCell (World.setCell (World.setCell (World.setCell (World.setCell w6 ⟨g, i * 5, none⟩ (.int .i64 y1.id.1)) ⟨g, i * 5 + 1, none⟩ (.int .i64 y1.id.2)) ⟨g, i * 5 + 2, none⟩ (.slice D2 d2 c2)) ⟨g, i * 5 + 3, none⟩ (strV y1.txt)) ⟨g, i * 5 + 4, none⟩ (.slice E2 m2 k2)) = w9 at *
        refine hK.out _ _ (HSB.out w9.drew (hk9.drewN 1) (hx9.drewN 1) (hy9.drewN 1)) (fun _ => wpAnyH_done (by kernel_rfl) ?_ _)
        clear hK K1 hS1
        have hj : n - (pre ++ [i]).length = i := by rw [List.length_append, List.length_singleton]; omega
        have hd : Below w9.heap.size w9 w9.drew := below_drewN (Below.refl _ _) 1
        refine ⟨((HA.out.1 _).trans (t2 _)).trans (keepsFrom_below _ hd), ⟨fun v hv => t3 _ v (by omega) (HA.out.2 _ v (by omega) hv), fun _ => cells5_below (cells5_rd t1.ls HLN.out) hd⟩, x1, y1 :: post, D1, c1, E1, k1, ?_⟩
        rw [hj]
        exact t1.mv hd
    case done =>
      rintro E9 W hE hI hK
      obtain ⟨x, post, Dx, dcx, Ex, kx, hI⟩ := hI
      rw [dn_length, Nat.sub_self] at hI
      have hbf := hI.bf; have hbb := hI.bb; have hr0 := hI.r0; have hr1 := hI.r1; have hr2 := hI.r2
      have q0 := hbf.cell 0 (u := .int .i64 x.id.1) rfl; have q1 := hbf.cell 1 (u := .int .i64 x.id.2) rfl; have q2 := hbf.cell 2 (u := .slice Dx dn dcx) rfl; have q3 := hbf.cell 3 (u := strV x.txt) rfl; have q4 := hbf.cell 4 (u := .slice Ex m kx) rfl
      have bb0 := hbb.cell 0 (u := .slice (some ⟨g, 0, none⟩) n n) rfl
      have r0 := hr0.cell 0 (u := .int .i64 0) rfl; have r1 := hr0.cell 1 (u := .int .i64 0) rfl; have r2 := hr0.cell 2 (u := .slice none 0 0) rfl; have r3 := hr0.cell 3 (u := .string ⟨#[]⟩) rfl; have r4 := hr0.cell 4 (u := .slice none 0 0) rfl
      have f0 := hr0.frozen 0; have f1 := hr0.frozen 1; have f2 := hr0.frozen 2; have f3 := hr0.frozen 3; have f4 := hr0.frozen 4
      have s0 := hr1.cell 0 (u := .slice none 0 0) rfl; have g0 := hr1.frozen 0
      have t0 := hr2.cell 0 (u := .bool false) rfl; have h0 := hr2.frozen 0
      have hlt0 := hbf.lt; have hlt1 := hr0.lt; have hlt := hr1.lt; have hlt2 := hr2.lt; have hltz := Nat.lt_of_succ_lt hr0.lt; have hltb := hbb.lt
      have HI := Lib.hid hI
      have HD := Lib.hid (over_done hI (show w.heap.size ≤ E9 by omega) hK)
      clear hI hbf hbb hr0 hr1 hr2
      gi_wp2
      refine wpIn_wide.2 ?_
      have HSB : Hid (∀ Y : World, Blk Y (g + 1) 22 #[.slice (some ⟨g, 0, none⟩) n n] → Blk Y F 45 #[.int .i64 x.id.1, .int .i64 x.id.2, .slice Dx dn dcx, strV x.txt, .slice Ex m kx] → Y.cell? ⟨g + 1, 0, none⟩ = some (.slice (some ⟨g, 0, none⟩) n n) ∧ Y.cell? ⟨F, 0, none⟩ = some (.int .i64 x.id.1) ∧ Y.cell? ⟨F, 1, none⟩ = some (.int .i64 x.id.2) ∧ Y.cell? ⟨F, 2, none⟩ = some (.slice Dx dn dcx) ∧ Y.cell? ⟨F, 3, none⟩ = some (strV x.txt) ∧ Y.cell? ⟨F, 4, none⟩ = some (.slice Ex m kx)) := Lib.hid (fun Y h1 h2 => ⟨h1.cell 0 rfl, h2.cell 0 rfl, h2.cell 1 rfl, h2.cell 2 rfl, h2.cell 3 rfl, h2.cell 4 rfl⟩)
      have HKD := Lib.hid (HSB.out W.drew (HI.out.bb.drewN 1) (HI.out.bf.drewN 1))
      have HKA := Lib.hid (HSB.out (World.setCell (World.setCell (World.setCell (World.setCell (World.setCell W ⟨z + 1, 0, none⟩ (.int .i64 x.id.1)) ⟨z + 1, 1, none⟩ (.int .i64 x.id.2)) ⟨z + 1, 2, none⟩ (.slice Dx dn dcx)) ⟨z + 1, 3, none⟩ (strV x.txt)) ⟨z + 1, 4, none⟩ (.slice Ex m kx)).drew ((blk_set5 HI.out.bb (show g + 1 ≠ z + 1 by omega) (.int .i64 x.id.1) (.int .i64 x.id.2) (.slice Dx dn dcx) (strV x.txt) (.slice Ex m kx)).drewN 1) ((blk_set5 HI.out.bf (show F ≠ z + 1 by omega) (.int .i64 x.id.1) (.int .i64 x.id.2) (.slice Dx dn dcx) (strV x.txt) (.slice Ex m kx)).drewN 1))
      have HKB := Lib.hid (HSB.out (World.setCell (World.setCell (World.setCell (World.setCell (World.setCell (World.setCell W ⟨z + 1, 0, none⟩ (.int .i64 x.id.1)) ⟨z + 1, 1, none⟩ (.int .i64 x.id.2)) ⟨z + 1, 2, none⟩ (.slice Dx dn dcx)) ⟨z + 1, 3, none⟩ (strV x.txt)) ⟨z + 1, 4, none⟩ (.slice Ex m kx)) ⟨z + 1 + 1, 0, none⟩ (.slice (some ⟨g, 0, none⟩) n n)).drew (((blk_set5 HI.out.bb (show g + 1 ≠ z + 1 by omega) (.int .i64 x.id.1) (.int .i64 x.id.2) (.slice Dx dn dcx) (strV x.txt) (.slice Ex m kx)).set_ne (show g + 1 ≠ z + 1 + 1 by omega) 0 (.slice (some ⟨g, 0, none⟩) n n)).drewN 1) (((blk_set5 HI.out.bf (show F ≠ z + 1 by omega) (.int .i64 x.id.1) (.int .i64 x.id.2) (.slice Dx dn dcx) (strV x.txt) (.slice Ex m kx)).set_ne (show F ≠ z + 1 + 1 by omega) 0 (.slice (some ⟨g, 0, none⟩) n n)).drewN 1))
      have HKC := Lib.hid (HSB.out (World.setCell (World.setCell (World.setCell (World.setCell (World.setCell (World.setCell (World.setCell W ⟨z + 1, 0, none⟩ (.int .i64 x.id.1)) ⟨z + 1, 1, none⟩ (.int .i64 x.id.2)) ⟨z + 1, 2, none⟩ (.slice Dx dn dcx)) ⟨z + 1, 3, none⟩ (strV x.txt)) ⟨z + 1, 4, none⟩ (.slice Ex m kx)) ⟨z + 1 + 1, 0, none⟩ (.slice (some ⟨g, 0, none⟩) n n)) ⟨z + 1 + 1 + 1, 0, none⟩ (.bool true)).drew ((((blk_set5 HI.out.bb (show g + 1 ≠ z + 1 by omega) (.int .i64 x.id.1) (.int .i64 x.id.2) (.slice Dx dn dcx) (strV x.txt) (.slice Ex m kx)).set_ne (show g + 1 ≠ z + 1 + 1 by omega) 0 (.slice (some ⟨g, 0, none⟩) n n)).set_ne (show g + 1 ≠ z + 1 + 1 + 1 by omega) 0 (.bool true)).drewN 1) ((((blk_set5 HI.out.bf (show F ≠ z + 1 by omega) (.int .i64 x.id.1) (.int .i64 x.id.2) (.slice Dx dn dcx) (strV x.txt) (.slice Ex m kx)).set_ne (show F ≠ z + 1 + 1 by omega) 0 (.slice (some ⟨g, 0, none⟩) n n)).set_ne (show F ≠ z + 1 + 1 + 1 by omega) 0 (.bool true)).drewN 1))
      go_region_held3 (fun Y => Y.cell? ⟨g + 1, 0, none⟩ = some (.slice (some ⟨g, 0, none⟩) n n) ∧ Y.cell? ⟨F, 0, none⟩ = some (.int .i64 x.id.1) ∧ Y.cell? ⟨F, 1, none⟩ = some (.int .i64 x.id.2) ∧ Y.cell? ⟨F, 2, none⟩ = some (.slice Dx dn dcx) ∧ Y.cell? ⟨F, 3, none⟩ = some (strV x.txt) ∧ Y.cell? ⟨F, 4, none⟩ = some (.slice Ex m kx))
        (first | (with_reducible exact HKD.out) | (with_reducible exact HKA.out) | (with_reducible exact HKB.out) | (with_reducible exact HKC.out))
        (fail)
      have hd := over_done (OvI.mv HI.out (show Below W.heap.size W W.drew from below_drewN (Below.refl _ _) 1)) (show w.heap.size ≤ E9 by omega) hK
      dsimp only [nmC] at hd
      simp only [World.setCell_drew] at hd
      have HD := Lib.hid hd
      clear hd HKD HKA HKB HKC HSB bb0 q0 q1 q2 q3 q4 r0 r1 r2 r3 r4 f0 f1 f2 f3 f4 s0 g0 t0 h0 hlt0 hlt1 hlt hlt2 hltz hltb
      gi_wp2
      obtain ⟨d1, d2, d3, d4, d5, d6, d7⟩ := HD.out
      refine ⟨by simp, .inl ⟨_, _, rfl, run_takeDeferred d1, ?_⟩⟩
      clear d1 hK
      generalize (World.putObj (World.setCell (World.setCell (World.setCell (World.setCell (World.setCell (World.setCell (World.setCell W ⟨z + 1, 0, none⟩ (.int .i64 x.id.1)) ⟨z + 1, 1, none⟩ (.int .i64 x.id.2)) ⟨z + 1, 2, none⟩ (.slice Dx dn dcx)) ⟨z + 1, 3, none⟩ (strV x.txt)) ⟨z + 1, 4, none⟩ (.slice Ex m kx)) ⟨z + 1 + 1, 0, none⟩ (.slice (some ⟨g, 0, none⟩) n n)) ⟨z + 1 + 1 + 1, 0, none⟩ (.bool true)).drew E9 (.deferred none)) = W9 at *
      have u0 := d2.cell 0 (u := .int .i64 x.id.1) rfl; have u1 := d2.cell 1 (u := .int .i64 x.id.2) rfl; have u2 := d2.cell 2 (u := .slice Dx dn dcx) rfl; have u3 := d2.cell 3 (u := strV x.txt) rfl; have u4 := d2.cell 4 (u := .slice Ex m kx) rfl
      have y0 := d3.cell 0 (u := .slice (some ⟨g, 0, none⟩) n n) rfl; have z0 := d4.cell 0 (u := .bool true) rfl
      refine ⟨.tuple #[.agg #[.int .i64 x.id.1, .int .i64 x.id.2, .slice Dx dn dcx, strV x.txt, .slice Ex m kx], .slice (some ⟨g, 0, none⟩) n n, .bool true], by simp [results, Try.results25, go_sem, u0, u1, u2, u3, u4, y0, z0], ?_⟩
      have he := HI.out.eq
      rw [List.drop_zero] at he
      have ho := HO.out; have hs := HS.out
      rw [he] at ho hs
      injection ho with e1 e2
      subst e1 e2 hs
      exact ⟨Dx, dn, dcx, Ex, m, kx, _, rfl, d5, d6, d7⟩
    case stop =>
      rintro E9 c' pre post W hE hpp ⟨rfl, ho, r0, r1, r2, fr⟩ hK
      gi_wp2
      refine ⟨by simp, .inl ⟨_, _, rfl, run_takeDeferred hK, ?_⟩⟩
      obtain ⟨p1, p2, _, _, _⟩ := over_put (show w.heap.size ≤ E9 by omega) hK fr
      have d2 := p2 _ _ _ r0; have d3 := p2 _ _ _ r1; have d4 := p2 _ _ _ r2
      clear hK r0 r1 r2 fr p2
      generalize (World.putObj W E9 (.deferred none)) = W9 at *
      have u0 := d2.cell 0 (u := .int .i64 0) rfl; have u1 := d2.cell 1 (u := .int .i64 0) rfl; have u2 := d2.cell 2 (u := .slice none 0 0) rfl; have u3 := d2.cell 3 (u := .string ⟨#[]⟩) rfl; have u4 := d2.cell 4 (u := .slice none 0 0) rfl
      have y0 := d3.cell 0 (u := .slice none 0 0) rfl; have z0 := d4.cell 0 (u := .bool false) rfl
      refine ⟨.tuple #[.agg #[.int .i64 0, .int .i64 0, .slice none 0 0, .string ⟨#[]⟩, .slice none 0 0], .slice none 0 0, .bool false], by simp [results, Try.results25, go_sem, u0, u1, u2, u3, u4, y0, z0], ?_⟩
      have ho' := HO.out; have hs := HS.out
      rw [ho] at ho' hs
      injection ho' with e1 e2
      subst e1 e2 hs
      exact ⟨none, 0, 0, none, 0, 0, _, rfl, ng_no _ _, ⟨[], World.ownsRow_nil _ _ _ _, fun k x hx => by simp at hx⟩, p1⟩

end Tg
end Go.Proofs.Ytdnkinajbebkoaa

set_option maxRecDepth 100000
namespace Go.Proofs.Ytdnkinajbebkoaa
open Go.RowKit
set_option linter.unusedVariables false
set_option linter.unusedSimpArgs false
namespace Tg
open Tx Df Sq Hk Tr Pr Fl Pn
attribute [local go_sem] eq_id

/-- How the document's own Pass ends that tells x, y and bo: in blocks that S names, or in memory that is new. -/
def NPassEndS (w : World) (S : Nat → Prop) (x y : Nm) (bo : Bool) (e : Ending) (w' : World) : Prop :=
  ∃ D1 d1 e1 A1 n1 c1 D2 d2 e2 A2 n2 c2, e = .returned (.tuple #[nmV x.id D1 d1 e1 x.txt A1 n1 c1, nmV y.id D2 d2 e2 y.txt A2 n2 c2, .bool bo]) ∧ NG w' (Also S w w') D1 d1 e1 A1 n1 c1 x ∧ NG w' (Also S w w') D2 d2 e2 A2 n2 c2 y ∧ Below w.heap.size w w'
theorem npassS_none {w w' : World} {S : Nat → Prop} {x y : Nm} {bo : Bool} {o : Option (Nm × Nm)} (h : o = none) (ho : outN o = (x, y)) (hb : o.isSome = bo) (hw : Below w.heap.size w w') : NPassEndS w S x y bo (.returned (.tuple #[.agg #[.int .i64 0, .int .i64 0, .slice none 0 0, .string ⟨#[]⟩, .slice none 0 0], .agg #[.int .i64 0, .int .i64 0, .slice none 0 0, .string ⟨#[]⟩, .slice none 0 0], .bool false])) w' := by
  subst h
  injection ho with h1 h2
  subst h1 h2 hb
  exact ⟨none, 0, 0, none, 0, 0, none, 0, 0, none, 0, 0, rfl, ng_no _ _, ng_no _ _, hw⟩

theorem five_blk (w : World) (t0 t1 t2 t3 t4 : TypeId) (c0 c1 c2 c3 c4 : Array Value) : let W := ((((w.alloc (.cells c0 t0)).alloc (.cells c1 t1)).alloc (.cells c2 t2)).alloc (.cells c3 t3)).alloc (.cells c4 t4)
    Blk W w.heap.size t0 c0 ∧ Blk W (w.heap.size + 1) t1 c1 ∧ Blk W (w.heap.size + 1 + 1) t2 c2 ∧ Blk W (w.heap.size + 1 + 1 + 1) t3 c3 ∧ Blk W (w.heap.size + 1 + 1 + 1 + 1) t4 c4 ∧ Below w.heap.size w W := by
  intro W
  obtain ⟨b0, b1, b2, b3, hb⟩ := four_blk w t0 t1 t2 t3 c0 c1 c2 c3
  have b4 := Blk.new ((((w.alloc (.cells c0 t0)).alloc (.cells c1 t1)).alloc (.cells c2 t2)).alloc (.cells c3 t3)) t4 c4
  simp only [World.size_alloc] at b4
  exact ⟨b0.alloc _, b1.alloc _, b2.alloc _, b3.alloc _, b4, hb.alloc hb.size _⟩

set_option maxRecDepth 100000 in
set_option maxHeartbeats 2000000 in
theorem refPassN (S : Nat → Prop) (D : Option Addr) (dn dc : Nat) (A : Option Addr) (n c : Nat) (D' : Option Addr) (dn' dc' : Nat) (A' : Option Addr) (n' c' : Nat) (p q x y : Nm) (w : World) (bo : Bool) (hle : n ≤ 1000) (hle' : n' ≤ 1000) (hd' : dn' ≤ 100000) (hl : Lt p.l) (hl' : Lt q.l)
    (hS : ∀ b, S b → b < w.heap.size) (hv : NG w S D dn dc A n c p) (hv' : NG w S D' dn' dc' A' n' c' q) (ho : outN (passN p q) = (x, y)) (hs : (passN p q).isSome = bo) :
    Calls Try.prog 54 #[nmV p.id D dn dc p.txt A n c, nmV q.id D' dn' dc' q.txt A' n' c'] w (NPassEndS w S x y bo) := by
  have HV := Lib.hid hv; have HV' := Lib.hid hv'; have HO := Lib.hid ho; have HS := Lib.hid hs; have HL := Lib.hid hl; have HL' := Lib.hid hl'; have HSS := Lib.hid hS
  clear hv hv' ho hs hl hl' hS
  go_enter Try.func54, Try.ntmps54
  go_wp2_with fail
  obtain ⟨b0, b1, b2, b3, b4, hba⟩ := five_blk w 45 45 45 45 45 #[.int .i64 p.id.1, .int .i64 p.id.2, .slice D dn dc, strV p.txt, .slice A n c] #[.int .i64 q.id.1, .int .i64 q.id.2, .slice D' dn' dc', strV q.txt, .slice A' n' c'] #[.int .i64 0, .int .i64 0, .slice none 0 0, .string ⟨#[]⟩, .slice none 0 0] #[.int .i64 0, .int .i64 0, .slice none 0 0, .string ⟨#[]⟩, .slice none 0 0] #[.int .i64 0, .int .i64 0, .slice none 0 0, .string ⟨#[]⟩, .slice none 0 0]
  generalize (((((w.alloc (.cells #[.int .i64 p.id.1, .int .i64 p.id.2, .slice D dn dc, strV p.txt, .slice A n c] 45)).alloc (.cells #[.int .i64 q.id.1, .int .i64 q.id.2, .slice D' dn' dc', strV q.txt, .slice A' n' c'] 45)).alloc (.cells #[.int .i64 0, .int .i64 0, .slice none 0 0, .string ⟨#[]⟩, .slice none 0 0] 45)).alloc (.cells #[.int .i64 0, .int .i64 0, .slice none 0 0, .string ⟨#[]⟩, .slice none 0 0] 45)).alloc (.cells #[.int .i64 0, .int .i64 0, .slice none 0 0, .string ⟨#[]⟩, .slice none 0 0] 45)) = w1 at b0 b1 b2 b3 b4 hba ⊢
  obtain ⟨z, hz⟩ : ∃ z, w.heap.size = z := ⟨_, rfl⟩
  rw [hz] at b0 b1 b2 b3 b4 ⊢
  have HZ := Lib.hid hz
  have HB0 := Lib.hid b0; have HB1 := Lib.hid b1; have HB2 := Lib.hid b2; have HB3 := Lib.hid b3; have HB4 := Lib.hid b4; have HBW := Lib.hid hba
  replace HV := Lib.hid (HV.out.to_ ((alike_below hba).mono HSS.out)); replace HV' := Lib.hid (HV'.out.to_ ((alike_below hba).mono HSS.out))
  clear b0 b1 b2 b3 b4 hba hz
  go_loopw [8] (fun i wr => ∃ k : Nat, k ≤ dn' ∧ i = .int .i64 (k : Int) ∧ (∀ (j : Nat) (y : Id_), q.deps[j]? = some y → j < k → y ≠ p.id) ∧ Below w1.heap.size w1 wr) (fun i _ => dn' - (intOf i).toNat)
  case atStart => exact ⟨0, Nat.zero_le _, rfl, fun j _ _ hj => by omega, Below.refl _ _⟩
  case round =>
    obtain ⟨k, hk, rfl, hall, hb⟩ := hrel
    have HA := Lib.hid hall
    replace HB0 := Lib.hid (HB0.out.below hb HB0.out.lt); replace HB1 := Lib.hid (HB1.out.below hb HB1.out.lt); replace HB2 := Lib.hid (HB2.out.below hb HB2.out.lt); replace HB3 := Lib.hid (HB3.out.below hb HB3.out.lt); replace HB4 := Lib.hid (HB4.out.below hb HB4.out.lt)
    have hs1 : w.heap.size ≤ w1.heap.size := HBW.out.size
    replace HV := Lib.hid (HV.out.to_ ((alike_below hb).mono fun b h => Nat.lt_of_lt_of_le (HSS.out b h) hs1)); replace HV' := Lib.hid (HV'.out.to_ ((alike_below hb).mono fun b h => Nat.lt_of_lt_of_le (HSS.out b h) hs1))
    have HBR := Lib.hid hb
    replace HBW := Lib.hid (below_mv HBW.out hb)
    clear hall hb hs1
    have hdl := HV'.out.dl
    by_cases hlt : k < dn'
    · have hki : (k : Int) < (dn' : Int) := by omega
      have hrd : RdI wr wr.heap.size D' q.deps := (HV'.out.dr.mono fun b h => Nat.lt_of_lt_of_le (HSS.out b h) HBW.out.size)
      obtain ⟨a, y, rfl, _, hy, c0, c1⟩ := hrd.elem (k := k) (by rw [hdl]; exact hlt)
      have HY := Lib.hid hy
      clear hy hrd
      have x0 := HB0.out.cell 0 rfl; have x1 := HB0.out.cell 1 rfl; have y2 := HB1.out.cell 2 rfl
      have l0 := HB0.out.lt; have l1 := HB1.out.lt
      obtain ⟨i1, i2⟩ := y
      obtain ⟨P1, hP1⟩ : ∃ v, p.id.1 = v := ⟨_, rfl⟩
      obtain ⟨P2, hP2⟩ : ∃ v, p.id.2 = v := ⟨_, rfl⟩
      have HP : Hid (p.id = (P1, P2)) := Lib.hid (Prod.ext hP1 hP2)
      rw [hP1] at x0
      rw [hP2] at x1
      dsimp only at c0 c1
      by_cases e1 : i1 = P1
      · by_cases e2 : i2 = P2
        · subst e1 e2
          have HE : Hid (passN p q = none) := Lib.hid (by
            unfold passN
            rw [if_pos]
            rw [HP.out]
            exact List.mem_of_getElem? HY.out)
          go_wp2
          go_quiet (fail)
          go_wp2
          have hq : Below wr.heap.size wr (wr.drewN nq) := below_drewN (Below.refl _ _) nq
          replace HB2 := Lib.hid (HB2.out.below hq HB2.out.lt); replace HB3 := Lib.hid (HB3.out.below hq HB3.out.lt); replace HB4 := Lib.hid (HB4.out.below hq HB4.out.lt); replace HBW := Lib.hid (below_mv HBW.out hq)
          clear hq x0 x1 y2 l0 l1 c0 c1 HV HV' HB0 HB1 HBR
          generalize (wr.drewN nq) = wq at HB2 HB3 HB4 HBW ⊢
          have HSB : Hid (∀ Y : World, Blk Y (z + 1 + 1 + 1 + 1) 45 #[.int .i64 0, .int .i64 0, .slice none 0 0, .string ⟨#[]⟩, .slice none 0 0] → Y.cell? ⟨z + 1 + 1 + 1 + 1, 0, none⟩ = some (.int .i64 0) ∧ Y.cell? ⟨z + 1 + 1 + 1 + 1, 1, none⟩ = some (.int .i64 0) ∧ Y.cell? ⟨z + 1 + 1 + 1 + 1, 2, none⟩ = some (.slice none 0 0) ∧ Y.cell? ⟨z + 1 + 1 + 1 + 1, 3, none⟩ = some (.string ⟨#[]⟩) ∧ Y.cell? ⟨z + 1 + 1 + 1 + 1, 4, none⟩ = some (.slice none 0 0)) := Lib.hid (fun Y h0 => ⟨h0.cell 0 rfl, h0.cell 1 rfl, h0.cell 2 rfl, h0.cell 3 rfl, h0.cell 4 rfl⟩)
          have HKD := Lib.hid (HSB.out wq.drew (HB4.out.drewN 1))
          have HKA := Lib.hid (HSB.out (World.setCell (World.setCell (World.setCell (World.setCell (World.setCell wq ⟨z + 1 + 1, 0, none⟩ (.int .i64 0)) ⟨z + 1 + 1, 1, none⟩ (.int .i64 0)) ⟨z + 1 + 1, 2, none⟩ (.slice none 0 0)) ⟨z + 1 + 1, 3, none⟩ (.string ⟨#[]⟩)) ⟨z + 1 + 1, 4, none⟩ (.slice none 0 0)).drew ((blk_set5 HB4.out (show z + 1 + 1 + 1 + 1 ≠ z + 1 + 1 by omega) (.int .i64 0) (.int .i64 0) (.slice none 0 0) (.string ⟨#[]⟩) (.slice none 0 0)).drewN 1))
          have HKB := Lib.hid (HSB.out (World.setCell (World.setCell (World.setCell (World.setCell (World.setCell (World.setCell (World.setCell (World.setCell (World.setCell (World.setCell wq ⟨z + 1 + 1, 0, none⟩ (.int .i64 0)) ⟨z + 1 + 1, 1, none⟩ (.int .i64 0)) ⟨z + 1 + 1, 2, none⟩ (.slice none 0 0)) ⟨z + 1 + 1, 3, none⟩ (.string ⟨#[]⟩)) ⟨z + 1 + 1, 4, none⟩ (.slice none 0 0)) ⟨z + 1 + 1 + 1, 0, none⟩ (.int .i64 0)) ⟨z + 1 + 1 + 1, 1, none⟩ (.int .i64 0)) ⟨z + 1 + 1 + 1, 2, none⟩ (.slice none 0 0)) ⟨z + 1 + 1 + 1, 3, none⟩ (.string ⟨#[]⟩)) ⟨z + 1 + 1 + 1, 4, none⟩ (.slice none 0 0)).drew ((blk_set5 (blk_set5 HB4.out (show z + 1 + 1 + 1 + 1 ≠ z + 1 + 1 by omega) (.int .i64 0) (.int .i64 0) (.slice none 0 0) (.string ⟨#[]⟩) (.slice none 0 0)) (show z + 1 + 1 + 1 + 1 ≠ z + 1 + 1 + 1 by omega) (.int .i64 0) (.int .i64 0) (.slice none 0 0) (.string ⟨#[]⟩) (.slice none 0 0)).drewN 1))
          have r0 := HB2.out.cell 0 rfl; have r1 := HB2.out.cell 1 rfl; have r2 := HB2.out.cell 2 rfl; have r3 := HB2.out.cell 3 rfl; have r4 := HB2.out.cell 4 rfl
          have t0 := HB3.out.cell 0 rfl; have t1 := HB3.out.cell 1 rfl; have t2 := HB3.out.cell 2 rfl; have t3 := HB3.out.cell 3 rfl; have t4 := HB3.out.cell 4 rfl
          have f0 := HB2.out.frozen 0; have f1 := HB2.out.frozen 1; have f2 := HB2.out.frozen 2; have f3 := HB2.out.frozen 3; have f4 := HB2.out.frozen 4
          have g0 := HB3.out.frozen 0; have g1 := HB3.out.frozen 1; have g2 := HB3.out.frozen 2; have g3 := HB3.out.frozen 3; have g4 := HB3.out.frozen 4
          have l2 := HB2.out.lt; have l3 := HB3.out.lt
          have hT := two5 HB2.out HB3.out HBW.out (show w.heap.size ≤ z + 1 + 1 by have := HZ.out; omega) (.int .i64 0) (.int .i64 0) (.slice none 0 0) (.string ⟨#[]⟩) (.slice none 0 0) (.int .i64 0) (.int .i64 0) (.slice none 0 0) (.string ⟨#[]⟩) (.slice none 0 0)
          go_region_held3 (fun Y => Y.cell? ⟨z + 1 + 1 + 1 + 1, 0, none⟩ = some (.int .i64 0) ∧ Y.cell? ⟨z + 1 + 1 + 1 + 1, 1, none⟩ = some (.int .i64 0) ∧ Y.cell? ⟨z + 1 + 1 + 1 + 1, 2, none⟩ = some (.slice none 0 0) ∧ Y.cell? ⟨z + 1 + 1 + 1 + 1, 3, none⟩ = some (.string ⟨#[]⟩) ∧ Y.cell? ⟨z + 1 + 1 + 1 + 1, 4, none⟩ = some (.slice none 0 0))
            (first | (with_reducible exact HKD.out) | (with_reducible exact HKA.out) | (with_reducible exact HKB.out))
            (fail)
          clear HSB HKD HKA HKB r0 r1 r2 r3 r4 t0 t1 t2 t3 t4 f0 f1 f2 f3 f4 g0 g1 g2 g3 g4 l2 l3
          go_wp2_with fail
          have hdr : ∀ W9 : World, Below W9.heap.size W9 W9.drew := fun W9 => below_drewN (Below.refl _ _) 1
          generalize (World.setCell (World.setCell (World.setCell (World.setCell (World.setCell (World.setCell (World.setCell (World.setCell (World.setCell (World.setCell wq ⟨z + 1 + 1, 0, none⟩ (.int .i64 0)) ⟨z + 1 + 1, 1, none⟩ (.int .i64 0)) ⟨z + 1 + 1, 2, none⟩ (.slice none 0 0)) ⟨z + 1 + 1, 3, none⟩ (.string ⟨#[]⟩)) ⟨z + 1 + 1, 4, none⟩ (.slice none 0 0)) ⟨z + 1 + 1 + 1, 0, none⟩ (.int .i64 0)) ⟨z + 1 + 1 + 1, 1, none⟩ (.int .i64 0)) ⟨z + 1 + 1 + 1, 2, none⟩ (.slice none 0 0)) ⟨z + 1 + 1 + 1, 3, none⟩ (.string ⟨#[]⟩)) ⟨z + 1 + 1 + 1, 4, none⟩ (.slice none 0 0)) = w9 at *
          obtain ⟨t1, t2, t3, t4, t5⟩ := hT
          have b3 := below_mv t3 (hdr w9)
          have u0 := t1.cell 0 rfl; have u1 := t1.cell 1 rfl; have u2 := t1.cell 2 rfl; have u3 := t1.cell 3 rfl; have u4 := t1.cell 4 rfl
          have v0 := t2.cell 0 rfl; have v1 := t2.cell 1 rfl; have v2 := t2.cell 2 rfl; have v3 := t2.cell 3 rfl; have v4 := t2.cell 4 rfl
          refine bodyPost_ret (v := .tuple #[.agg #[.int .i64 0, .int .i64 0, .slice none 0 0, .string ⟨#[]⟩, .slice none 0 0], .agg #[.int .i64 0, .int .i64 0, .slice none 0 0, .string ⟨#[]⟩, .slice none 0 0], .bool false]) (by simp [results, Try.results54, go_sem, u0, u1, u2, u3, u4, v0, v1, v2, v3, v4]) rfl ?_
          exact npassS_none HE.out HO.out HS.out b3
        · subst e1
          have e3 : (i2 == P2) = false := by rw [beq_eq_false_iff_ne]; exact e2
          go_wp2
          go_quiet (fail)
          go_wp2
          refine ⟨⟨k + 1, by omega, by go_num, fun j y hy hj => ?_, below_drewN HBR.out _⟩, by simp [intOf]; omega⟩
          by_cases e : j = k
          · subst e
            have h1 := HY.out
            rw [h1] at hy
            injection hy with hy
            subst hy
            rw [HP.out]
            intro e
            injection e with _ e; exact e2 e
          · exact HA.out j y hy (by omega)
      · have e3 : (i1 == P1) = false := by rw [beq_eq_false_iff_ne]; exact e1
        go_wp2
        go_quiet (fail)
        go_wp2
        refine ⟨⟨k + 1, by omega, by go_num, fun j y hy hj => ?_, below_drewN HBR.out _⟩, by simp [intOf]; omega⟩
        by_cases e : j = k
        · subst e
          have h1 := HY.out
          rw [h1] at hy
          injection hy with hy
          subst hy
          rw [HP.out]
          intro e
          injection e with e _; exact e1 e
        · exact HA.out j y hy (by omega)
    · have HNM : Hid (p.id ∉ q.deps) := Lib.hid (fun h => by
        obtain ⟨j, hj⟩ := List.getElem?_of_mem h
        exact HA.out j _ hj (by have := (List.getElem?_eq_some_iff.1 hj).1; omega) rfl)
      have hkn : k = dn' := by omega
      subst hkn
      have x4 := HB0.out.cell 4 rfl; have y2 := HB1.out.cell 2 rfl; have y4 := HB1.out.cell 4 rfl
      have l0 := HB0.out.lt; have l1 := HB1.out.lt
      go_wp2_with fail
      obtain ⟨⟨lx, ly⟩, hol⟩ : ∃ z, outF (passF p.l q.l) = z := ⟨_, rfl⟩
      obtain ⟨bl, hbl⟩ : ∃ b, (passF p.l q.l).isSome = b := ⟨_, rfl⟩
      refine (refPassS S A n c A' n' c' p.l q.l lx ly wr bl HV.out.l HV'.out.l hle hle' HL.out HL'.out (fun b h => Nat.lt_of_lt_of_le (HSS.out b h) HBW.out.size) HV.out.k HV.out.r HV'.out.r hol hbl).mono ?_
      rintro e w3 ⟨E1, k1, E2, k2, rfl, hk1, hk2, hr1, hr2, hb⟩
      have HOL := Lib.hid hol; have HBL := Lib.hid hbl
      clear hol hbl x4 y2 y4 l0 l1
      have hz5 : z + 5 ≤ wr.heap.size := HB4.out.lt
      have HR1 := Lib.hid (hr1.mono fun b hb => (hb.imp id fun h => ⟨Nat.le_trans hz5 h.1, h.2⟩ : S b ∨ (z + 5 ≤ b ∧ b < w3.heap.size))); have HR2 := Lib.hid (hr2.mono fun b hb => (hb.imp id fun h => ⟨Nat.le_trans hz5 h.1, h.2⟩ : S b ∨ (z + 5 ≤ b ∧ b < w3.heap.size))); have HK1 := Lib.hid hk1; have HK2 := Lib.hid hk2
      replace HB0 := Lib.hid (HB0.out.below hb HB0.out.lt); replace HB1 := Lib.hid (HB1.out.below hb HB1.out.lt); replace HB2 := Lib.hid (HB2.out.below hb HB2.out.lt); replace HB3 := Lib.hid (HB3.out.below hb HB3.out.lt); replace HB4 := Lib.hid (HB4.out.below hb HB4.out.lt)
      have hsw : w.heap.size ≤ wr.heap.size := HBW.out.size
      replace HV := Lib.hid (HV.out.to_ ((alike_below hb).mono fun b h => Nat.lt_of_lt_of_le (HSS.out b h) hsw)); replace HV' := Lib.hid (HV'.out.to_ ((alike_below hb).mono fun b h => Nat.lt_of_lt_of_le (HSS.out b h) hsw))
      have HS3 := Lib.hid hb.size; have HS5 := Lib.hid hz5
      replace HBW := Lib.hid (below_mv HBW.out hb)
      clear hb hr1 hr2 hk1 hk2 hsw hz5
      cases bl with
      | false =>
        have HE : Hid (passN p q = none) := Lib.hid (by
          unfold passN
          rw [if_neg HNM.out]
          have h := HBL.out
          cases hp : passF p.l q.l with
          | none => rfl
          | some z => rw [hp] at h; cases h)
        go_wp2_with fail
        have HSB : Hid (∀ Y : World, Blk Y (z + 1 + 1 + 1 + 1) 45 #[.int .i64 0, .int .i64 0, .slice none 0 0, .string ⟨#[]⟩, .slice none 0 0] → Y.cell? ⟨z + 1 + 1 + 1 + 1, 0, none⟩ = some (.int .i64 0) ∧ Y.cell? ⟨z + 1 + 1 + 1 + 1, 1, none⟩ = some (.int .i64 0) ∧ Y.cell? ⟨z + 1 + 1 + 1 + 1, 2, none⟩ = some (.slice none 0 0) ∧ Y.cell? ⟨z + 1 + 1 + 1 + 1, 3, none⟩ = some (.string ⟨#[]⟩) ∧ Y.cell? ⟨z + 1 + 1 + 1 + 1, 4, none⟩ = some (.slice none 0 0)) := Lib.hid (fun Y h0 => ⟨h0.cell 0 rfl, h0.cell 1 rfl, h0.cell 2 rfl, h0.cell 3 rfl, h0.cell 4 rfl⟩)
        have HKD := Lib.hid (HSB.out w3.drew (HB4.out.drewN 1))
        have HKA := Lib.hid (HSB.out (World.setCell (World.setCell (World.setCell (World.setCell (World.setCell w3 ⟨z + 1 + 1, 0, none⟩ (.int .i64 0)) ⟨z + 1 + 1, 1, none⟩ (.int .i64 0)) ⟨z + 1 + 1, 2, none⟩ (.slice none 0 0)) ⟨z + 1 + 1, 3, none⟩ (.string ⟨#[]⟩)) ⟨z + 1 + 1, 4, none⟩ (.slice none 0 0)).drew ((blk_set5 HB4.out (show z + 1 + 1 + 1 + 1 ≠ z + 1 + 1 by omega) (.int .i64 0) (.int .i64 0) (.slice none 0 0) (.string ⟨#[]⟩) (.slice none 0 0)).drewN 1))
        have HKB := Lib.hid (HSB.out (World.setCell (World.setCell (World.setCell (World.setCell (World.setCell (World.setCell (World.setCell (World.setCell (World.setCell (World.setCell w3 ⟨z + 1 + 1, 0, none⟩ (.int .i64 0)) ⟨z + 1 + 1, 1, none⟩ (.int .i64 0)) ⟨z + 1 + 1, 2, none⟩ (.slice none 0 0)) ⟨z + 1 + 1, 3, none⟩ (.string ⟨#[]⟩)) ⟨z + 1 + 1, 4, none⟩ (.slice none 0 0)) ⟨z + 1 + 1 + 1, 0, none⟩ (.int .i64 0)) ⟨z + 1 + 1 + 1, 1, none⟩ (.int .i64 0)) ⟨z + 1 + 1 + 1, 2, none⟩ (.slice none 0 0)) ⟨z + 1 + 1 + 1, 3, none⟩ (.string ⟨#[]⟩)) ⟨z + 1 + 1 + 1, 4, none⟩ (.slice none 0 0)).drew ((blk_set5 (blk_set5 HB4.out (show z + 1 + 1 + 1 + 1 ≠ z + 1 + 1 by omega) (.int .i64 0) (.int .i64 0) (.slice none 0 0) (.string ⟨#[]⟩) (.slice none 0 0)) (show z + 1 + 1 + 1 + 1 ≠ z + 1 + 1 + 1 by omega) (.int .i64 0) (.int .i64 0) (.slice none 0 0) (.string ⟨#[]⟩) (.slice none 0 0)).drewN 1))
        have r0 := HB2.out.cell 0 rfl; have r1 := HB2.out.cell 1 rfl; have r2 := HB2.out.cell 2 rfl; have r3 := HB2.out.cell 3 rfl; have r4 := HB2.out.cell 4 rfl
        have t0 := HB3.out.cell 0 rfl; have t1 := HB3.out.cell 1 rfl; have t2 := HB3.out.cell 2 rfl; have t3 := HB3.out.cell 3 rfl; have t4 := HB3.out.cell 4 rfl
        have f0 := HB2.out.frozen 0; have f1 := HB2.out.frozen 1; have f2 := HB2.out.frozen 2; have f3 := HB2.out.frozen 3; have f4 := HB2.out.frozen 4
        have g0 := HB3.out.frozen 0; have g1 := HB3.out.frozen 1; have g2 := HB3.out.frozen 2; have g3 := HB3.out.frozen 3; have g4 := HB3.out.frozen 4
        have l2 := HB2.out.lt; have l3 := HB3.out.lt
        have hT := two5 HB2.out HB3.out HBW.out (show w.heap.size ≤ z + 1 + 1 by have := HZ.out; omega) (.int .i64 0) (.int .i64 0) (.slice none 0 0) (.string ⟨#[]⟩) (.slice none 0 0) (.int .i64 0) (.int .i64 0) (.slice none 0 0) (.string ⟨#[]⟩) (.slice none 0 0)
        go_region_held3 (fun Y => Y.cell? ⟨z + 1 + 1 + 1 + 1, 0, none⟩ = some (.int .i64 0) ∧ Y.cell? ⟨z + 1 + 1 + 1 + 1, 1, none⟩ = some (.int .i64 0) ∧ Y.cell? ⟨z + 1 + 1 + 1 + 1, 2, none⟩ = some (.slice none 0 0) ∧ Y.cell? ⟨z + 1 + 1 + 1 + 1, 3, none⟩ = some (.string ⟨#[]⟩) ∧ Y.cell? ⟨z + 1 + 1 + 1 + 1, 4, none⟩ = some (.slice none 0 0))
          (first | (with_reducible exact HKD.out) | (with_reducible exact HKA.out) | (with_reducible exact HKB.out))
          (fail)
        clear HSB HKD HKA HKB r0 r1 r2 r3 r4 t0 t1 t2 t3 t4 f0 f1 f2 f3 f4 g0 g1 g2 g3 g4 l2 l3
        go_wp2_with fail
        have hdr : ∀ W9 : World, Below W9.heap.size W9 W9.drew := fun W9 => below_drewN (Below.refl _ _) 1
        generalize (World.setCell (World.setCell (World.setCell (World.setCell (World.setCell (World.setCell (World.setCell (World.setCell (World.setCell (World.setCell w3 ⟨z + 1 + 1, 0, none⟩ (.int .i64 0)) ⟨z + 1 + 1, 1, none⟩ (.int .i64 0)) ⟨z + 1 + 1, 2, none⟩ (.slice none 0 0)) ⟨z + 1 + 1, 3, none⟩ (.string ⟨#[]⟩)) ⟨z + 1 + 1, 4, none⟩ (.slice none 0 0)) ⟨z + 1 + 1 + 1, 0, none⟩ (.int .i64 0)) ⟨z + 1 + 1 + 1, 1, none⟩ (.int .i64 0)) ⟨z + 1 + 1 + 1, 2, none⟩ (.slice none 0 0)) ⟨z + 1 + 1 + 1, 3, none⟩ (.string ⟨#[]⟩)) ⟨z + 1 + 1 + 1, 4, none⟩ (.slice none 0 0)) = w9 at *
        obtain ⟨t1, t2, t3, t4, t5⟩ := hT
        have b3 := below_mv t3 (hdr w9)
        have u0 := t1.cell 0 rfl; have u1 := t1.cell 1 rfl; have u2 := t1.cell 2 rfl; have u3 := t1.cell 3 rfl; have u4 := t1.cell 4 rfl
        have v0 := t2.cell 0 rfl; have v1 := t2.cell 1 rfl; have v2 := t2.cell 2 rfl; have v3 := t2.cell 3 rfl; have v4 := t2.cell 4 rfl
        refine bodyPost_ret (v := .tuple #[.agg #[.int .i64 0, .int .i64 0, .slice none 0 0, .string ⟨#[]⟩, .slice none 0 0], .agg #[.int .i64 0, .int .i64 0, .slice none 0 0, .string ⟨#[]⟩, .slice none 0 0], .bool false]) (by simp [results, Try.results54, go_sem, u0, u1, u2, u3, u4, v0, v1, v2, v3, v4]) rfl ?_
        exact npassS_none HE.out HO.out HS.out b3
      | true =>
        have HE : Hid (passN p q = some (⟨q.id, q.deps, q.txt, lx⟩, ⟨p.id, p.deps, p.txt, ly⟩)) := Lib.hid (by
          unfold passN
          rw [if_neg HNM.out, outF_of HOL.out HBL.out]
          rfl)
        have x4 := HB0.out.cell 4 rfl; have y4 := HB1.out.cell 4 rfl
        have f0 := HB0.out.frozen 4; have f1 := HB1.out.frozen 4
        have l0 := HB0.out.lt; have l1 := HB1.out.lt
        go_wp2_with fail
        have hzw : w.heap.size = z := HZ.out
        have hzs : z + 5 ≤ w3.heap.size := Nat.le_trans HS5.out HS3.out
        have b0 : Blk ((w3.setCell ⟨z, 4, none⟩ (.slice E2 ly.length k2)).setCell ⟨z + 1, 4, none⟩ (.slice E1 lx.length k1)) z 45 #[.int .i64 p.id.1, .int .i64 p.id.2, .slice D dn dc, strV p.txt, .slice E2 ly.length k2] := (HB0.out.set 4 (.slice E2 ly.length k2)).set_ne (by omega) 4 _
        have b1 : Blk ((w3.setCell ⟨z, 4, none⟩ (.slice E2 ly.length k2)).setCell ⟨z + 1, 4, none⟩ (.slice E1 lx.length k1)) (z + 1) 45 #[.int .i64 q.id.1, .int .i64 q.id.2, .slice D' k dc', strV q.txt, .slice E1 lx.length k1] := (HB1.out.set_ne (by omega) 4 (.slice E2 ly.length k2)).set 4 _
        have b2 := (HB2.out.set_ne (show z + 1 + 1 ≠ z by omega) 4 (.slice E2 ly.length k2)).set_ne (show z + 1 + 1 ≠ z + 1 by omega) 4 (.slice E1 lx.length k1)
        have b3 := (HB3.out.set_ne (show z + 1 + 1 + 1 ≠ z by omega) 4 (.slice E2 ly.length k2)).set_ne (show z + 1 + 1 + 1 ≠ z + 1 by omega) 4 (.slice E1 lx.length k1)
        have al : Fl.Alike (fun b => b ≠ z ∧ b ≠ z + 1) w3 ((w3.setCell ⟨z, 4, none⟩ (.slice E2 ly.length k2)).setCell ⟨z + 1, 4, none⟩ (.slice E1 lx.length k1)) := ((alike_set w3 z 4 _).mono fun b hb => hb.1).trans_ ((alike_set _ (z + 1) 4 _).mono fun b hb => hb.2) (by simp)
        have key : ∀ b, (S b ∨ (z + 5 ≤ b ∧ b < w3.heap.size)) → b ≠ z ∧ b ≠ z + 1 := fun b hb => by rcases hb with h | h; (have := HSS.out b h; omega); omega
        have r1 := HR1.out.to (al.mono key); have r2 := HR2.out.to (al.mono key)
        have e1 := HV.out.to_ (al.mono fun b h => key b (.inl h)); have e2 := HV'.out.to_ (al.mono fun b h => key b (.inl h))
        have hw4 : Below w.heap.size w ((w3.setCell ⟨z, 4, none⟩ (.slice E2 ly.length k2)).setCell ⟨z + 1, 4, none⟩ (.slice E1 lx.length k1)) := (HBW.out.setCell (p := ⟨z, 4, none⟩) (Nat.le_of_eq hzw) _).setCell (p := ⟨z + 1, 4, none⟩) (show w.heap.size ≤ z + 1 by omega) _
        have hsz : ((w3.setCell ⟨z, 4, none⟩ (.slice E2 ly.length k2)).setCell ⟨z + 1, 4, none⟩ (.slice E1 lx.length k1)).heap.size = w3.heap.size := by simp
        clear x4 y4 f0 f1 l0 l1 al HB4 HB0 HB1 HV HV' HBR
        generalize ((w3.setCell ⟨z, 4, none⟩ (.slice E2 ly.length k2)).setCell ⟨z + 1, 4, none⟩ (.slice E1 lx.length k1)) = wq at *
        replace HB2 := Lib.hid b2; replace HB3 := Lib.hid b3; have HB0 := Lib.hid b0; have HB1 := Lib.hid b1; replace HBW := Lib.hid hw4; replace HR1 := Lib.hid r1; replace HR2 := Lib.hid r2; have HV := Lib.hid e1; have HV' := Lib.hid e2; have HSZ := Lib.hid hsz
        clear b0 b1 b2 b3 hw4 r1 r2 e1 e2 hsz
        have HSB : Hid (∀ Y : World, Blk Y z 45 #[.int .i64 p.id.1, .int .i64 p.id.2, .slice D dn dc, strV p.txt, .slice E2 ly.length k2] → Blk Y (z + 1) 45 #[.int .i64 q.id.1, .int .i64 q.id.2, .slice D' k dc', strV q.txt, .slice E1 lx.length k1] → Y.cell? ⟨z, 0, none⟩ = some (.int .i64 p.id.1) ∧ Y.cell? ⟨z, 1, none⟩ = some (.int .i64 p.id.2) ∧ Y.cell? ⟨z, 2, none⟩ = some (.slice D dn dc) ∧ Y.cell? ⟨z, 3, none⟩ = some (strV p.txt) ∧ Y.cell? ⟨z, 4, none⟩ = some (.slice E2 ly.length k2) ∧ Y.cell? ⟨z + 1, 0, none⟩ = some (.int .i64 q.id.1) ∧ Y.cell? ⟨z + 1, 1, none⟩ = some (.int .i64 q.id.2) ∧ Y.cell? ⟨z + 1, 2, none⟩ = some (.slice D' k dc') ∧ Y.cell? ⟨z + 1, 3, none⟩ = some (strV q.txt) ∧ Y.cell? ⟨z + 1, 4, none⟩ = some (.slice E1 lx.length k1)) := Lib.hid (fun Y h0 h1 => ⟨h0.cell 0 rfl, h0.cell 1 rfl, h0.cell 2 rfl, h0.cell 3 rfl, h0.cell 4 rfl, h1.cell 0 rfl, h1.cell 1 rfl, h1.cell 2 rfl, h1.cell 3 rfl, h1.cell 4 rfl⟩)
        have HKD := Lib.hid (HSB.out wq.drew (HB0.out.drewN 1) (HB1.out.drewN 1))
        have HKA := Lib.hid (HSB.out (World.setCell (World.setCell (World.setCell (World.setCell (World.setCell wq ⟨z + 1 + 1, 0, none⟩ (.int .i64 q.id.1)) ⟨z + 1 + 1, 1, none⟩ (.int .i64 q.id.2)) ⟨z + 1 + 1, 2, none⟩ (.slice D' k dc')) ⟨z + 1 + 1, 3, none⟩ (strV q.txt)) ⟨z + 1 + 1, 4, none⟩ (.slice E1 lx.length k1)).drew ((blk_set5 HB0.out (show z ≠ z + 1 + 1 by omega) (.int .i64 q.id.1) (.int .i64 q.id.2) (.slice D' k dc') (strV q.txt) (.slice E1 lx.length k1)).drewN 1) ((blk_set5 HB1.out (show z + 1 ≠ z + 1 + 1 by omega) (.int .i64 q.id.1) (.int .i64 q.id.2) (.slice D' k dc') (strV q.txt) (.slice E1 lx.length k1)).drewN 1))
        have HKB := Lib.hid (HSB.out (World.setCell (World.setCell (World.setCell (World.setCell (World.setCell (World.setCell (World.setCell (World.setCell (World.setCell (World.setCell wq ⟨z + 1 + 1, 0, none⟩ (.int .i64 q.id.1)) ⟨z + 1 + 1, 1, none⟩ (.int .i64 q.id.2)) ⟨z + 1 + 1, 2, none⟩ (.slice D' k dc')) ⟨z + 1 + 1, 3, none⟩ (strV q.txt)) ⟨z + 1 + 1, 4, none⟩ (.slice E1 lx.length k1)) ⟨z + 1 + 1 + 1, 0, none⟩ (.int .i64 p.id.1)) ⟨z + 1 + 1 + 1, 1, none⟩ (.int .i64 p.id.2)) ⟨z + 1 + 1 + 1, 2, none⟩ (.slice D dn dc)) ⟨z + 1 + 1 + 1, 3, none⟩ (strV p.txt)) ⟨z + 1 + 1 + 1, 4, none⟩ (.slice E2 ly.length k2)).drew ((blk_set5 (blk_set5 HB0.out (show z ≠ z + 1 + 1 by omega) (.int .i64 q.id.1) (.int .i64 q.id.2) (.slice D' k dc') (strV q.txt) (.slice E1 lx.length k1)) (show z ≠ z + 1 + 1 + 1 by omega) (.int .i64 p.id.1) (.int .i64 p.id.2) (.slice D dn dc) (strV p.txt) (.slice E2 ly.length k2)).drewN 1) ((blk_set5 (blk_set5 HB1.out (show z + 1 ≠ z + 1 + 1 by omega) (.int .i64 q.id.1) (.int .i64 q.id.2) (.slice D' k dc') (strV q.txt) (.slice E1 lx.length k1)) (show z + 1 ≠ z + 1 + 1 + 1 by omega) (.int .i64 p.id.1) (.int .i64 p.id.2) (.slice D dn dc) (strV p.txt) (.slice E2 ly.length k2)).drewN 1))
        have r0 := HB2.out.cell 0 rfl; have r1 := HB2.out.cell 1 rfl; have r2 := HB2.out.cell 2 rfl; have r3 := HB2.out.cell 3 rfl; have r4 := HB2.out.cell 4 rfl
        have t0 := HB3.out.cell 0 rfl; have t1 := HB3.out.cell 1 rfl; have t2 := HB3.out.cell 2 rfl; have t3 := HB3.out.cell 3 rfl; have t4 := HB3.out.cell 4 rfl
        have f0 := HB2.out.frozen 0; have f1 := HB2.out.frozen 1; have f2 := HB2.out.frozen 2; have f3 := HB2.out.frozen 3; have f4 := HB2.out.frozen 4
        have g0 := HB3.out.frozen 0; have g1 := HB3.out.frozen 1; have g2 := HB3.out.frozen 2; have g3 := HB3.out.frozen 3; have g4 := HB3.out.frozen 4
        have l2 := HB2.out.lt; have l3 := HB3.out.lt
        have hT := two5 HB2.out HB3.out HBW.out (show w.heap.size ≤ z + 1 + 1 by have := HZ.out; omega) (.int .i64 q.id.1) (.int .i64 q.id.2) (.slice D' k dc') (strV q.txt) (.slice E1 lx.length k1) (.int .i64 p.id.1) (.int .i64 p.id.2) (.slice D dn dc) (strV p.txt) (.slice E2 ly.length k2)
        go_region_held3 (fun Y => Y.cell? ⟨z, 0, none⟩ = some (.int .i64 p.id.1) ∧ Y.cell? ⟨z, 1, none⟩ = some (.int .i64 p.id.2) ∧ Y.cell? ⟨z, 2, none⟩ = some (.slice D dn dc) ∧ Y.cell? ⟨z, 3, none⟩ = some (strV p.txt) ∧ Y.cell? ⟨z, 4, none⟩ = some (.slice E2 ly.length k2) ∧ Y.cell? ⟨z + 1, 0, none⟩ = some (.int .i64 q.id.1) ∧ Y.cell? ⟨z + 1, 1, none⟩ = some (.int .i64 q.id.2) ∧ Y.cell? ⟨z + 1, 2, none⟩ = some (.slice D' k dc') ∧ Y.cell? ⟨z + 1, 3, none⟩ = some (strV q.txt) ∧ Y.cell? ⟨z + 1, 4, none⟩ = some (.slice E1 lx.length k1))
          (first | (with_reducible exact HKD.out) | (with_reducible exact HKA.out) | (with_reducible exact HKB.out))
          (fail)
        clear HSB HKD HKA HKB r0 r1 r2 r3 r4 t0 t1 t2 t3 t4 f0 f1 f2 f3 f4 g0 g1 g2 g3 g4 l2 l3
        go_wp2_with fail
        have hdr : ∀ W9 : World, Below W9.heap.size W9 W9.drew := fun W9 => below_drewN (Below.refl _ _) 1
        generalize (World.setCell (World.setCell (World.setCell (World.setCell (World.setCell (World.setCell (World.setCell (World.setCell (World.setCell (World.setCell wq ⟨z + 1 + 1, 0, none⟩ (.int .i64 q.id.1)) ⟨z + 1 + 1, 1, none⟩ (.int .i64 q.id.2)) ⟨z + 1 + 1, 2, none⟩ (.slice D' k dc')) ⟨z + 1 + 1, 3, none⟩ (strV q.txt)) ⟨z + 1 + 1, 4, none⟩ (.slice E1 lx.length k1)) ⟨z + 1 + 1 + 1, 0, none⟩ (.int .i64 p.id.1)) ⟨z + 1 + 1 + 1, 1, none⟩ (.int .i64 p.id.2)) ⟨z + 1 + 1 + 1, 2, none⟩ (.slice D dn dc)) ⟨z + 1 + 1 + 1, 3, none⟩ (strV p.txt)) ⟨z + 1 + 1 + 1, 4, none⟩ (.slice E2 ly.length k2)) = w9 at *
        obtain ⟨t1, t2, t3, t4, t5⟩ := hT
        have b3 := below_mv t3 (hdr w9)
        have u0 := t1.cell 0 rfl; have u1 := t1.cell 1 rfl; have u2 := t1.cell 2 rfl; have u3 := t1.cell 3 rfl; have u4 := t1.cell 4 rfl
        have v0 := t2.cell 0 rfl; have v1 := t2.cell 1 rfl; have v2 := t2.cell 2 rfl; have v3 := t2.cell 3 rfl; have v4 := t2.cell 4 rfl
        obtain ⟨k4, k5⟩ := passL_len passP (outF_of HOL.out HBL.out)
        have hv := HV.out; have hv' := HV'.out
        have hl0 := hv.l; have hl1 := hv'.l; have hsz := HSZ.out
        have key2 : ∀ b, (S b ∨ (z + 5 ≤ b ∧ b < w3.heap.size)) → b ≠ z + 1 + 1 ∧ b ≠ z + 1 + 1 + 1 := fun b hb => by rcases hb with h | h; (have := HSS.out b h; omega); omega
        have up : ∀ b, (S b ∨ (z + 5 ≤ b ∧ b < w3.heap.size)) → Also S w w9.drew b := fun b hb => hb.imp id fun h => ⟨by omega, by show _ < w9.heap.size; omega⟩
        have l1 := (((HR1.out.to (t5.mono key2)).mono up).to (Fl.alike_drewN _ w9 1)); have l2 := (((HR2.out.to (t5.mono key2)).mono up).to (Fl.alike_drewN _ w9 1))
        have d1 := ((hv'.dr.to (t5.mono fun b h => key2 b (.inl h))).to (Fl.alike_drewN _ w9 1)).mono fun b h => up b (.inl h); have d2 := ((hv.dr.to (t5.mono fun b h => key2 b (.inl h))).to (Fl.alike_drewN _ w9 1)).mono fun b h => up b (.inl h)
        refine bodyPost_ret (v := .tuple #[.agg #[.int .i64 q.id.1, .int .i64 q.id.2, .slice D' k dc', strV q.txt, .slice E1 lx.length k1], .agg #[.int .i64 p.id.1, .int .i64 p.id.2, .slice D dn dc, strV p.txt, .slice E2 ly.length k2], .bool true]) (by simp [results, Try.results54, go_sem, u0, u1, u2, u3, u4, v0, v1, v2, v3, v4]) rfl ?_
        have ho := HO.out
        have hs := HS.out
        rw [HE.out] at ho hs
        injection ho with e1 e2
        subst e1 e2 hs
        exact ⟨D', k, dc', E1, lx.length, k1, D, dn, dc, E2, ly.length, k2, rfl, ⟨hv'.dl, hv'.dk, hv'.dm, d1, hv'.tm, rfl, HK1.out, by unfold maxLen; omega, l1⟩, ⟨hv.dl, hv.dk, hv.dm, d2, hv.tm, rfl, HK2.out, by unfold maxLen; omega, l2⟩, b3⟩

end Tg
end Go.Proofs.Ytdnkinajbebkoaa

namespace Go.Proofs.Ytdnkinajbebkoaa
open Go.RowKit
set_option linter.unusedVariables false
namespace Tg
open Tx Df Sq Hk Tr Pr Fl Pn

/-- Where two patches lie, made since w; what there was in u is as it was, but for their blocks. -/
def Lay5 (w u W : World) (T U : Nat) (x y : Array Value) : Prop := Blk W T 45 x ∧ Blk W U 45 y ∧ w.heap.size ≤ T ∧ w.heap.size ≤ U ∧ Below w.heap.size w W ∧ u.heap.size ≤ W.heap.size ∧ Fl.Alike (fun b => b < u.heap.size ∧ b ≠ T ∧ b ≠ U) u W
section
variable {w u : World} {T U X Y : Nat} {x0 x1 x2 x3 x4 y0 y1 y2 y3 y4 : Value}
theorem Lay5.swap {W : World} {x y : Array Value} (h : Lay5 w u W T U x y) : Lay5 w u W U T y x := ⟨h.2.1, h.1, h.2.2.2.1, h.2.2.1, h.2.2.2.2.1, h.2.2.2.2.2.1, h.2.2.2.2.2.2.mono fun b hb => ⟨hb.1, hb.2.2, hb.2.1⟩⟩
theorem size_set5 (W : World) (b : Nat) (v0 v1 v2 v3 v4 : Value) : (((((W.setCell ⟨b, 0, none⟩ v0).setCell ⟨b, 1, none⟩ v1).setCell ⟨b, 2, none⟩ v2).setCell ⟨b, 3, none⟩ v3).setCell ⟨b, 4, none⟩ v4).heap.size = W.heap.size := by simp
theorem lay5_aa (hw : Below w.heap.size w u) : Lay5 w u ((u.alloc (.cells #[x0, x1, x2, x3, x4] 45)).alloc (.cells #[y0, y1, y2, y3, y4] 45)) u.heap.size (u.heap.size + 1) #[x0, x1, x2, x3, x4] #[y0, y1, y2, y3, y4] := by
  have h2 := Blk.new (u.alloc (.cells #[x0, x1, x2, x3, x4] 45)) 45 #[y0, y1, y2, y3, y4]
  simp only [World.size_alloc] at h2
  have hb := Cut2.bel2 u (.cells #[x0, x1, x2, x3, x4] 45) (.cells #[y0, y1, y2, y3, y4] 45)
  exact ⟨(Blk.new u _ _).alloc _, h2, hw.size, Nat.le_succ_of_le hw.size, hw.trans (hb.mono hw.size), hb.size, (alike_below hb).mono fun b h => h.1⟩
theorem lay5_sa (hw : Below w.heap.size w u) (hX : Blk u X 45 noC) (hle : w.heap.size ≤ X) :
    Lay5 w u ((((((u.setCell ⟨X, 0, none⟩ x0).setCell ⟨X, 1, none⟩ x1).setCell ⟨X, 2, none⟩ x2).setCell ⟨X, 3, none⟩ x3).setCell ⟨X, 4, none⟩ x4).alloc (.cells #[y0, y1, y2, y3, y4] 45)) X u.heap.size #[x0, x1, x2, x3, x4] #[y0, y1, y2, y3, y4] := by
  have h2 := Blk.new (((((u.setCell ⟨X, 0, none⟩ x0).setCell ⟨X, 1, none⟩ x1).setCell ⟨X, 2, none⟩ x2).setCell ⟨X, 3, none⟩ x3).setCell ⟨X, 4, none⟩ x4) 45 #[y0, y1, y2, y3, y4]
  rw [size_set5] at h2
  have hb := below_set5 hw hle x0 x1 x2 x3 x4
  refine ⟨(blk5 hX _ _ _ _ _).alloc _, h2, hle, hw.size, hb.alloc hb.size _, by simp, ?_⟩
  refine ((alike_set5 u X x0 x1 x2 x3 x4).mono fun b h => h.2.1).trans_ ((alike_below (Cut2.bel1 _ _)).mono fun b h => ?_) (by simp)
  rw [size_set5]
  exact h.1
theorem lay5_ss (hw : Below w.heap.size w u) (hX : Blk u X 45 noC) (hY : Blk u Y 45 noC) (hne : X ≠ Y) (hle : w.heap.size ≤ X) (hle' : w.heap.size ≤ Y) :
    Lay5 w u ((((((((((u.setCell ⟨X, 0, none⟩ x0).setCell ⟨X, 1, none⟩ x1).setCell ⟨X, 2, none⟩ x2).setCell ⟨X, 3, none⟩ x3).setCell ⟨X, 4, none⟩ x4).setCell ⟨Y, 0, none⟩ y0).setCell ⟨Y, 1, none⟩ y1).setCell ⟨Y, 2, none⟩ y2).setCell ⟨Y, 3, none⟩ y3).setCell ⟨Y, 4, none⟩ y4) X Y #[x0, x1, x2, x3, x4] #[y0, y1, y2, y3, y4] := by
  refine ⟨blk_set5 (blk5 hX _ _ _ _ _) hne _ _ _ _ _, blk5 (blk_set5 hY (fun e => hne e.symm) _ _ _ _ _) _ _ _ _ _, hle, hle', below_set5 (below_set5 hw hle _ _ _ _ _) hle' _ _ _ _ _, by simp, ?_⟩
  exact ((alike_set5 u X x0 x1 x2 x3 x4).mono fun b h => h.2.1).trans_ ((alike_set5 _ Y y0 y1 y2 y3 y4).mono fun b h => h.2.2) (by simp)
end

/-- The blocks that S names, and those behind g. -/
def QS (S : Nat → Prop) (g : Nat) (W : World) : Nat → Prop := fun b => S b ∨ (g < b ∧ b < W.heap.size)
theorem qs_up {S : Nat → Prop} {g : Nat} {W W' : World} (h : W.heap.size ≤ W'.heap.size) : ∀ b, QS S g W b → QS S g W' b := fun b hb => hb.imp id fun h1 => ⟨h1.1, Nat.lt_of_lt_of_le h1.2 h⟩
theorem qs_lt {S : Nat → Prop} {z g : Nat} {W : World} (hlo : ∀ b, S b → b < z) (h : z ≤ W.heap.size) : ∀ b, QS S g W b → b < W.heap.size := fun b hb => hb.elim (fun h1 => Nat.lt_of_lt_of_le (hlo b h1) h) fun h1 => h1.2
/-- What was told in u lies so still where the two were laid. -/
theorem lay5_ng {w X u W : World} {S : Nat → Prop} {z g T U : Nat} {a b : Array Value} {D : Option Addr} {dn dc : Nat} {A : Option Addr} {n c : Nat} {p : Nm} (h : Lay5 w u W T U a b) (hn : NG u (Also (QS S g w) X u) D dn dc A n c p) (hlo : ∀ b, S b → b < z) (hz : z ≤ w.heap.size) (hg : g < w.heap.size) (hX : w.heap.size ≤ X.heap.size) (hu : w.heap.size ≤ u.heap.size)
    (hT : T < X.heap.size ∨ u.heap.size ≤ T) (hU : U < X.heap.size ∨ u.heap.size ≤ U) : NG W (QS S g W) D dn dc A n c p := by
  obtain ⟨_, _, h1, h2, _, h3, h4⟩ := h
  have key : ∀ b, Also (QS S g w) X u b → b < u.heap.size ∧ b ≠ T ∧ b ≠ U := fun b hb => by
    rcases hb with (h | h) | h
    · have := hlo b h; omega
    · omega
    · omega
  refine (hn.to_ (h4.mono key)).mono fun b hb => ?_
  rcases hb with (h | h) | h
  · exact .inl h
  · exact .inr ⟨h.1, by omega⟩
  · exact .inr ⟨by omega, by omega⟩

/-- Between two rounds of the document's own Over: x is q ahead of those from place j on, which are post. -/
structure RO (W : World) (S : Nat → Prop) (z g : Nat) (A1 : Option Addr) (n c1 : Nat) (l : List Nm) (q : Nm) (dn m j : Nat) (x : Nm) (post : List Nm) (D : Option Addr) (dc : Nat) (E : Option Addr) (k : Nat) : Prop where
  pos : z + 2 ≤ g ∧ (0 < n → g < W.heap.size ∧ A1 = some ⟨g, 0, none⟩)
  lo : ∀ b, S b → b < z
  og : ∀ b, (Value.slice A1 n c1).ownBlock = some b → b = g
  eq : overN (l.drop j) q = some (x, post)
  row : OwnT W (QS S g W) (z + 2) (.slice A1 n c1) (l.take j ++ post)
  bq : Blk W z 45 (nmC x D dn dc E m k)
  br : Blk W (z + 1) 45 noC
  ng : NG W (QS S g W) D dn dc E m k x
  lx : Lt x.l

theorem midN_len {l post : List Nm} {q x : Nm} {j n : Nat} (h : overN (l.drop j) q = some (x, post)) (hl : l.length = n) (hj : j ≤ n) : (l.take j ++ post).length = n := by
  rw [List.length_append, List.length_take, overN_len h, List.length_drop]; omega

theorem below_mvz {w W W' : World} {z : Nat} (h : Below z w W) (hb : Below W.heap.size W W') (hz : z ≤ W.heap.size) : Below z w W' := h.trans (hb.mono hz)
theorem ro_start {w0 w1 : World} {S : Nat → Prop} {z n c1 dn m dc k : Nat} {A1 D E : Option Addr} {l : List Nm} {q : Nm} (hle : n ≤ 1000) (hlo : ∀ b, S b → b < z) (hsz : w0.heap.size = z + 2) (ho : OwnT w1 S w0.heap.size (.slice A1 n c1) l) (hl : l.length = n) (hbq : Blk w1 z 45 (nmC q D dn dc E m k)) (hbr : Blk w1 (z + 1) 45 noC) (hv : NG w1 S D dn dc E m k q) (hlq : Lt q.l) :
    ∃ g, RO w1 S z g A1 n c1 l q dn m n q [] D dc E k := by
  have key : ∀ g, (z + 2 ≤ g ∧ (0 < n → g < w1.heap.size ∧ A1 = some ⟨g, 0, none⟩)) → (∀ b, (Value.slice A1 n c1).ownBlock = some b → b = g) → RO w1 S z g A1 n c1 l q dn m n q [] D dc E k := fun g hg hog =>
    ⟨hg, hlo, hog, by rw [List.drop_of_length_le (by omega)]; rfl, by rw [List.take_of_length_le (by omega), List.append_nil, ← hsz]; exact ho.mono fun b hb => .inl hb, hbq, hbr, hv.mono fun b hb => .inl hb, hlq⟩
  obtain ⟨xs, hr, hF⟩ := ho
  rcases hr.2 with ⟨e, h1⟩ | ⟨g, cap, cur, e, hbg, hg, hc, _⟩
  · injection e with e1 e2 e3
    subst e1 e2 e3
    exact ⟨z + 2, key _ ⟨Nat.le_refl _, fun h => absurd h (by omega)⟩ fun b h => by cases h⟩
  · injection e with e1 e2 e3
    subst e1 e3
    exact ⟨g, key g ⟨by omega, fun _ => ⟨(Array.getElem?_eq_some_iff.1 hg).1, rfl⟩⟩ fun b h => by injection h with h; exact h.symm⟩

/-- The blocks that S names and those made since w, but for a row's own. -/
def Else (S : Nat → Prop) (w w' : World) (v : Value) : Nat → Prop := fun b => Also S w w' b ∧ some b ≠ v.ownBlock
/-- How the document's own Over ends that tells x, ys and bo: in blocks that S names, or in memory that is new. -/
def ROEndS (w : World) (S : Nat → Prop) (x : Nm) (ys : List Nm) (bo : Bool) (e : Ending) (w' : World) : Prop :=
  ∃ D d c E m k A n ca, e = .returned (.tuple #[nmV x.id D d c x.txt E m k, .slice A n ca, .bool bo]) ∧ NG w' (Else S w w' (.slice A n ca)) D d c E m k x ∧ ys.length = n ∧ OwnT w' (Else S w w' (.slice A n ca)) w.heap.size (.slice A n ca) ys ∧ Below w.heap.size w w'
/-- How it ends, in short. -/
def ROEnd (w : World) (x : Nm) (ys : List Nm) (bo : Bool) (e : Ending) (w' : World) : Prop :=
  ∃ D d c E m k A n ca, e = .returned (.tuple #[nmV x.id D d c x.txt E m k, .slice A n ca, .bool bo]) ∧ NV w' w'.heap.size D d c E m k x ∧ ys.length = n ∧ n ≤ ca ∧ RdN w' w'.heap.size A ys ∧ Below w.heap.size w w'
theorem ownT_nil (W : World) (S : Nat → Prop) (base : Nat) : OwnT W S base (.slice none 0 0) [] := ⟨[], World.ownsRow_nil _ _ _ _, fun k x hx => by simp at hx⟩
theorem OwnT.base {W : World} {S : Nat → Prop} {b b' : Nat} {v : Value} {l : List Nm} (h : OwnT W S b v l) (hb : b' ≤ b) : OwnT W S b' v l := by
  obtain ⟨xs, h1, h2⟩ := h
  exact ⟨xs, own_mono h1 hb, h2⟩
theorem roS_none {w w' : World} {S : Nat → Prop} (hw : Below w.heap.size w w') : ROEndS w S noN [] false (.returned (.tuple #[nmV noN.id none 0 0 noN.txt none 0 0, .slice none 0 0, .bool false])) w' :=
  ⟨none, 0, 0, none, 0, 0, none, 0, 0, rfl, ng_no _ _, rfl, ownT_nil _ _ _, hw⟩
theorem ROEndS.short {w w' : World} {S : Nat → Prop} {x : Nm} {ys : List Nm} {bo : Bool} {e : Ending} (hS : ∀ b, S b → b < w.heap.size) (h : ROEndS w S x ys bo e w') : ROEnd w x ys bo e w' := by
  obtain ⟨D, d, c, E, m, k, A, n, ca, h0, h1, h2, h3, h4⟩ := h
  have up : ∀ b, Else S w w' (.slice A n ca) b → b < w'.heap.size := fun b hb => by
    rcases hb.1 with h | h
    · exact Nat.lt_of_lt_of_le (hS b h) h4.size
    · exact h.2
  obtain ⟨A', c', e', g1, g2⟩ := rdN_ownT h3 up
  rw [h2] at e' g1
  injection e' with e1 e2 e3
  subst e1 e3
  exact ⟨D, d, c, E, m, k, A, n, ca, h0, (h1.mono up).nv, h2, g1, g2, h4⟩

/-- The end: what is told lies so still where the answer's box is set. -/
theorem ro_fin {w W : World} {S : Nat → Prop} {z g n c1 dn m dc k : Nat} {A1 D E : Option Addr} {l : List Nm} {q x : Nm} {post : List Nm} (hI : RO W S z g A1 n c1 l q dn m 0 x post D dc E k) (hn : l.length = n) (hb : Below z w W) (hz : w.heap.size = z) (v0 v1 v2 v3 v4 : Value) :
    let W' := ((((W.setCell ⟨z + 1, 0, none⟩ v0).setCell ⟨z + 1, 1, none⟩ v1).setCell ⟨z + 1, 2, none⟩ v2).setCell ⟨z + 1, 3, none⟩ v3).setCell ⟨z + 1, 4, none⟩ v4
    overN l q = some (x, post) ∧ NG W' (Else S w W' (.slice A1 n c1)) D dn dc E m k x ∧ post.length = n ∧ OwnT W' (Else S w W' (.slice A1 n c1)) w.heap.size (.slice A1 n c1) post ∧ Below w.heap.size w W' := by
  intro W'
  obtain ⟨p1, p2⟩ := hI.pos
  have hs : W.heap.size = W'.heap.size := by simp [W']
  have hl := hI.br.lt
  have he := hI.eq
  have hlo := hI.lo
  rw [List.drop_zero] at he
  have hrow := hI.row
  rw [List.take_zero, List.nil_append] at hrow
  have kz : ∀ b, QS S g W b → b ≠ z + 1 := fun b h => by
    rcases h with h | h
    · have := hlo b h; omega
    · omega
  have al := alike_set5 W (z + 1) v0 v1 v2 v3 v4
  have up : ∀ b, QS S g W b → Else S w W' (.slice A1 n c1) b := fun b h => by
    rcases h with h | h
    · exact ⟨.inl h, fun e => by have h1 := hI.og b e.symm; have h2 := hlo b h; omega⟩
    · exact ⟨.inr ⟨by omega, by omega⟩, fun e => by have h1 := hI.og b e.symm; omega⟩
  have hpl : post.length = n := by rw [overN_len he, hn]
  have hne : some (z + 1) ≠ (Value.slice A1 n c1).ownBlock := fun e => by have := ownT_ge hrow _ e.symm; omega
  have hr2 : OwnT W' (QS S g W) (z + 2) (.slice A1 n c1) post := hrow.set5 hne (fun h => kz _ h rfl) v0 v1 v2 v3 v4
  exact ⟨he, (hI.ng.to_ (al.mono kz)).mono up, hpl, (hr2.mono up).base (by omega), by rw [hz]; exact below_set5 hb (Nat.le_succ z) _ _ _ _ _⟩

/-- A round. -/
theorem ro_step {wc : World} {S : Nat → Prop} {z g n c1 i : Nat} {l : List Nm} {q x p x1 y1 : Nm} {dn m : Nat} {post : List Nm} {D : Option Addr} {dc : Nat} {E : Option Addr} {k : Nat} {D1 E1 D2 E2 : Option Addr} {e1 k1 d2 e2 n2 k2 : Nat} {W : World}
    (hI : RO W S z g (some ⟨g, 0, none⟩) n c1 l q dn m (i + 1) x post D dc E k) (hn : l.length = n) (hi : i < n) (hx : l[i]? = some p) (hlp : Lt p.l) (hp : passN p x = some (x1, y1)) (hb : Below W.heap.size W wc)
    (n1 : NG wc (QS S g wc) D1 dn e1 E1 m k1 x1) (n2' : NG wc (QS S g wc) D2 d2 e2 E2 n2 k2 y1) :
    let w1 := ((((wc.setCell ⟨z, 0, none⟩ (.int .i64 x1.id.1)).setCell ⟨z, 1, none⟩ (.int .i64 x1.id.2)).setCell ⟨z, 2, none⟩ (.slice D1 dn e1)).setCell ⟨z, 3, none⟩ (strV x1.txt)).setCell ⟨z, 4, none⟩ (.slice E1 m k1)
    OwnT w1 (QS S g w1) (z + 2) (.slice (some ⟨g, 0, none⟩) n c1) (l.take (i + 1) ++ post) ∧
    RO (((((w1.setCell ⟨g, i * 5, none⟩ (.int .i64 y1.id.1)).setCell ⟨g, i * 5 + 1, none⟩ (.int .i64 y1.id.2)).setCell ⟨g, i * 5 + 2, none⟩ (.slice D2 d2 e2)).setCell ⟨g, i * 5 + 3, none⟩ (strV y1.txt)).setCell ⟨g, i * 5 + 4, none⟩ (.slice E2 n2 k2)) S z g (some ⟨g, 0, none⟩) n c1 l q dn m i x1 (y1 :: post) D1 e1 E1 k1 := by
  intro w1
  obtain ⟨p1, p2'⟩ := hI.pos
  obtain ⟨p2, p3⟩ := p2' (by omega)
  have hs : W.heap.size ≤ wc.heap.size := hb.size
  have s1 : wc.heap.size = w1.heap.size := by simp [w1]
  have l0 := hI.bq.lt; have l1 := hI.br.lt
  have al1 := alike_set5 wc z (.int .i64 x1.id.1) (.int .i64 x1.id.2) (.slice D1 dn e1) (strV x1.txt) (.slice E1 m k1)
  have hlo := hI.lo
  have kz : ∀ (X : World) b, QS S g X b → b ≠ z := fun X b h => by
    rcases h with h | h
    · have := hlo b h; omega
    · omega
  have kg : ∀ (X : World) b, QS S g X b → b ≠ g := fun X b h => by
    rcases h with h | h
    · have := hlo b h; omega
    · omega
  have up1 := qs_up (S := S) (g := g) (Nat.le_of_eq s1)
  have hrow : OwnT w1 (QS S g w1) (z + 2) (.slice (some ⟨g, 0, none⟩) n c1) (l.take (i + 1) ++ post) :=
    (((hI.row.below hb).mono (qs_up hs)).set5 (b := z) (fun e => by injection e with e; have e : z = g := e; omega) (fun h => kz _ _ h rfl) _ _ _ _ _).mono up1
  have m1 := (n1.to_ (al1.mono (kz _))).mono up1
  have m2 := (n2'.to_ (al1.mono (kz _))).mono up1
  have b0 := blk5 (hI.bq.below hb l0) (.int .i64 x1.id.1) (.int .i64 x1.id.2) (.slice D1 dn e1) (strV x1.txt) (.slice E1 m k1)
  have b1 := blk_set5 (hI.br.below hb l1) (show z + 1 ≠ z by omega) (.int .i64 x1.id.1) (.int .i64 x1.id.2) (.slice D1 dn e1) (strV x1.txt) (.slice E1 m k1)
  refine ⟨hrow, ⟨p1, fun _ => ⟨by simp [w1]; omega, rfl⟩⟩, hlo, hI.og, one_step passN hx hI.eq hp, ?_, blk_row5 b0 (by omega) i _ _ _ _ _, blk_row5 b1 (by omega) i _ _ _ _ _, ?_, (passN_lt hp hlp hI.lx).1⟩
  · have := (hrow.store (k := i) (midN_len hI.eq hn (by omega)) (fun h => kg _ _ h rfl) m2).mono (qs_up (W' := ((((w1.setCell ⟨g, i * 5, none⟩ (.int .i64 y1.id.1)).setCell ⟨g, i * 5 + 1, none⟩ (.int .i64 y1.id.2)).setCell ⟨g, i * 5 + 2, none⟩ (.slice D2 d2 e2)).setCell ⟨g, i * 5 + 3, none⟩ (strV y1.txt)).setCell ⟨g, i * 5 + 4, none⟩ (.slice E2 n2 k2)) (by simp))
    rw [set_mid hx] at this
    exact this
  · exact (m1.to_ ((alike_row5 w1 g i (.int .i64 y1.id.1) (.int .i64 y1.id.2) (.slice D2 d2 e2) (strV y1.txt) (.slice E2 n2 k2)).mono (kg _))).mono (qs_up (by simp))

end Tg
end Go.Proofs.Ytdnkinajbebkoaa

namespace Go.Proofs.Ytdnkinajbebkoaa
open Go.RowKit
set_option linter.unusedVariables false
set_option linter.unusedSimpArgs false
namespace Tg
open Tx Df Sq Hk Tr Pr Fl Pn

/-- Where two patches lie that a round tells. -/
def LayN (w W : World) (S : Nat → Prop) (z g T U : Nat) (x : Nm) (D2 : Option Addr) (d2 e2 : Nat) (E2 : Option Addr) (n2 k2 : Nat) (y : Nm) (D3 : Option Addr) (d3 e3 : Nat) (E3 : Option Addr) (n3 k3 : Nat) : Prop :=
  Blk W T 45 (nmC x D2 d2 e2 E2 n2 k2) ∧ Blk W U 45 (nmC y D3 d3 e3 E3 n3 k3) ∧ w.heap.size ≤ T ∧ w.heap.size ≤ U ∧ Below w.heap.size w W ∧ NG W (QS S g W) D2 d2 e2 E2 n2 k2 x ∧ NG W (QS S g W) D3 d3 e3 E3 n3 k3 y
theorem layN {w X u W : World} {S : Nat → Prop} {z g T U : Nat} {x y : Nm} {D2 E2 D3 E3 : Option Addr} {d2 e2 n2 k2 d3 e3 n3 k3 : Nat} (h : Lay5 w u W T U (nmC x D2 d2 e2 E2 n2 k2) (nmC y D3 d3 e3 E3 n3 k3)) (h1 : NG u (Also (QS S g w) X u) D2 d2 e2 E2 n2 k2 x) (h2 : NG u (Also (QS S g w) X u) D3 d3 e3 E3 n3 k3 y)
    (hlo : ∀ b, S b → b < z) (hp : g < w.heap.size) (hz : z ≤ w.heap.size) (hu : Below w.heap.size w u) (hX : w.heap.size ≤ X.heap.size) (hT : T < X.heap.size ∨ u.heap.size ≤ T) (hU : U < X.heap.size ∨ u.heap.size ≤ U) : LayN w W S z g T U x D2 d2 e2 E2 n2 k2 y D3 d3 e3 E3 n3 k3 :=
  ⟨h.1, h.2.1, h.2.2.1, h.2.2.2.1, h.2.2.2.2.1, lay5_ng h h1 hlo hz hp hX hu.size hT hU, lay5_ng h h2 hlo hz hp hX hu.size hT hU⟩

set_option maxRecDepth 100000 in
set_option maxHeartbeats 16000000 in
theorem refOverS (S : Nat → Prop) (A : Option Addr) (n c : Nat) (l : List Nm) (D : Option Addr) (dn dc : Nat) (E : Option Addr) (m k : Nat) (q : Nm) (w : World) (hle : n ≤ 1000) (hm : m ≤ 1000) (hd : dn ≤ 100000) (hl : Lt q.l) (hS : ∀ b, S b → b < w.heap.size) (hls : Src w S A l) (hln : l.length = n) (hall : ∀ p ∈ l, Lt p.l ∧ p.l.length ≤ 1000 ∧ p.deps.length ≤ 100000) (hv : NG w S D dn dc E m k q) (xo : Nm) (ys : List Nm) (bo : Bool) (ho : outO (overN l q) = (xo, ys)) (hs : (overN l q).isSome = bo) :
    Calls Try.prog 33 #[.slice A n c, nmV q.id D dn dc q.txt E m k] w (ROEndS w S xo ys bo) := by
  have HO := Lib.hid ho; have HS := Lib.hid hs; have HLN := Lib.hid hln; have HALL := Lib.hid hall; have HLQ := Lib.hid hl
  have hbw := two_box w (.cells #[.int .i64 q.id.1, .int .i64 q.id.2, .slice D dn dc, strV q.txt, .slice E m k] 45) (.cells #[.int .i64 0, .int .i64 0, .slice none 0 0, .string ⟨#[]⟩, .slice none 0 0] 45)
  have b1 := (Blk.new w 45 #[.int .i64 q.id.1, .int .i64 q.id.2, .slice D dn dc, strV q.txt, .slice E m k]).alloc (.cells #[.int .i64 0, .int .i64 0, .slice none 0 0, .string ⟨#[]⟩, .slice none 0 0] 45)
  have b2 := Blk.new (w.alloc (.cells #[.int .i64 q.id.1, .int .i64 q.id.2, .slice D dn dc, strV q.txt, .slice E m k] 45)) 45 #[.int .i64 0, .int .i64 0, .slice none 0 0, .string ⟨#[]⟩, .slice none 0 0]
  simp only [World.size_alloc] at b2
  have hsz : ((w.alloc (.cells #[.int .i64 q.id.1, .int .i64 q.id.2, .slice D dn dc, strV q.txt, .slice E m k] 45)).alloc (.cells #[.int .i64 0, .int .i64 0, .slice none 0 0, .string ⟨#[]⟩, .slice none 0 0] 45)).heap.size = w.heap.size + 2 := by simp
  have HLS := Lib.hid (hls.below hbw); have HV := Lib.hid (hv.to_ ((alike_below hbw).mono hS)); have HLO := Lib.hid hS
  clear ho hs hln hall hl hls hv hS
  go_enter Try.func33, Try.ntmps33
  go_upto_region 1 with fail
  generalize ((w.alloc (.cells #[.int .i64 q.id.1, .int .i64 q.id.2, .slice D dn dc, strV q.txt, .slice E m k] 45)).alloc (.cells #[.int .i64 0, .int .i64 0, .slice none 0 0, .string ⟨#[]⟩, .slice none 0 0] 45)) = w0 at *
  obtain ⟨z, hz⟩ : ∃ z, w.heap.size = z := ⟨_, rfl⟩
  rw [hz] at b1 b2 hsz hbw HLO ⊢
  have HZ := Lib.hid hz; have HB1 := Lib.hid b1; have HB2 := Lib.hid b2; have HSZ := Lib.hid hsz; have HBW := Lib.hid hbw
  clear hz b1 b2 hsz hbw
  go_wp2_with (at_builtin; refine wpList_ownT rfl (.const (.slice none 0 0)) (.tmp 12) rfl S w0.heap.size n c (.slice none 0 0) A [] l rfl rfl (ownT_nil _ _ _) HLS.out HLN.out (by simp; omega) (fun b hb => ⟨by have h1 := HLO.out b hb; have h2 := HSZ.out; omega, fun e => by cases e⟩) (Nat.le_refl _) ?_; intro v w1 ho hg _; have hb1 : Below w0.heap.size w0 w1 := (Below.refl _ _).grown hg (Nat.le_refl _) (fun k e => by cases e); have HO1 := Lib.hid (show OwnT w1 S w0.heap.size v l from ho); have HBB := Lib.hid hb1; clear ho hg hb1; obtain ⟨A1, c1, hv1, hc1⟩ : ∃ A1 c1, v = .slice A1 n c1 ∧ n ≤ c1 := (ownT_slice HO1.out).elim fun A1 h => h.elim fun c1 h => ⟨A1, c1, by rw [← HLN.out]; exact h.1, by rw [← HLN.out]; exact h.2⟩; subst hv1)
  obtain ⟨g, hgg⟩ : ∃ g, RO w1 S z g A1 n c1 l q dn m n q [] D dc E k := ro_start hle HLO.out HSZ.out HO1.out HLN.out (HB1.out.below HBB.out HB1.out.lt) (HB2.out.below HBB.out HB2.out.lt) (HV.out.to_ ((alike_below HBB.out).mono fun b hb => by have h1 := HLO.out b hb; have h2 := HSZ.out; omega)) HLQ.out
  have HST := Lib.hid hgg
  replace HBW := Lib.hid (below_mvz HBW.out HBB.out (by have := HSZ.out; omega))
  clear hgg HO1 HBB HB1 HB2 HLS HV HSZ
  go_loopw [8] (fun i wr => ∃ (j : Nat) (x : Nm) (post : List Nm) (D1 : Option Addr) (e1 : Nat) (E1 : Option Addr) (k1 : Nat), j ≤ n ∧ i = .int .i64 ((j : Int) - 1) ∧ RO wr S z g A1 n c1 l q dn m j x post D1 e1 E1 k1 ∧ Below z w wr) (fun i _ => (intOf i + 1).toNat)
  case atStart => exact ⟨n, q, [], D, dc, E, k, Nat.le_refl _, rfl, HST.out, HBW.out⟩
  case round =>
    clear HST HBW
    obtain ⟨j, x, post, D1, e1, E1, k1, hj, rfl, hI, hbw⟩ := hrel
    have HBW := Lib.hid hbw; have HI := Lib.hid hI
    clear hbw hI
    have HZ2 : Hid (z ≤ wr.heap.size) := Lib.hid (Nat.le_of_lt HI.out.bq.lt)
    by_cases h0 : j = 0
    · subst h0
      have ez : (((0 : Nat) : Int) - 1) = -1 := rfl
      rw [ez]; clear ez
      have hB1 := HI.out.bq; have hB2 := HI.out.br
      have x0 := hB1.cell 0 rfl; have x1 := hB1.cell 1 rfl; have x2 := hB1.cell 2 rfl; have x3 := hB1.cell 3 rfl; have x4 := hB1.cell 4 rfl
      have z0 := hB2.cell 0 rfl; have z1 := hB2.cell 1 rfl; have z2 := hB2.cell 2 rfl; have z3 := hB2.cell 3 rfl; have z4 := hB2.cell 4 rfl
      have f0 := hB2.frozen 0; have f1 := hB2.frozen 1; have f2 := hB2.frozen 2; have f3 := hB2.frozen 3; have f4 := hB2.frozen 4
      have hlt0 := hB1.lt; have hlt := hB2.lt
      have HB3 := Lib.hid (blk5 hB2 (.int .i64 x.id.1) (.int .i64 x.id.2) (.slice D1 dn e1) (strV x.txt) (.slice E1 m k1))
      have HFN := Lib.hid (ro_fin HI.out HLN.out HBW.out HZ.out (.int .i64 x.id.1) (.int .i64 x.id.2) (.slice D1 dn e1) (strV x.txt) (.slice E1 m k1))
      clear hB1 hB2
      go_wp2_with fail
      have b6 := HB3.out
      have hfn := HFN.out
      generalize (World.setCell (World.setCell (World.setCell (World.setCell (World.setCell wr ⟨z + 1, 0, none⟩ (.int .i64 x.id.1)) ⟨z + 1, 1, none⟩ (.int .i64 x.id.2)) ⟨z + 1, 2, none⟩ (.slice D1 dn e1)) ⟨z + 1, 3, none⟩ (strV x.txt)) ⟨z + 1, 4, none⟩ (.slice E1 m k1)) = W9 at *
      clear x0 x1 x2 x3 x4 z0 z1 z2 z3 z4 f0 f1 f2 f3 f4 hlt0 hlt
      have u0 := b6.cell 0 rfl; have u1 := b6.cell 1 rfl; have u2 := b6.cell 2 rfl; have u3 := b6.cell 3 rfl; have u4 := b6.cell 4 rfl
      refine bodyPost_ret (v := .tuple #[.agg #[.int .i64 x.id.1, .int .i64 x.id.2, .slice D1 dn e1, strV x.txt, .slice E1 m k1], .slice A1 n c1, .bool true]) (by simp [results, Try.results33, go_sem, u0, u1, u2, u3, u4]) rfl ?_
      obtain ⟨he, r1, r2, r3, r4⟩ := hfn
      have ho := HO.out; have hs := HS.out
      rw [he] at ho hs
      injection ho with e1' e2'
      subst e1' e2' hs
      exact ⟨D1, dn, e1, E1, m, k1, A1, n, c1, rfl, r1, r2, r3, r4⟩
    · obtain ⟨i, rfl⟩ : ∃ i, j = i + 1 := ⟨j - 1, by omega⟩
      have ei : ((i + 1 : Nat) : Int) - 1 = (i : Int) := by omega
      rw [ei]; clear ei h0
      have hin : i < n := by omega
      have hki : (i : Int) < (n : Int) := by omega
      obtain ⟨p, hx⟩ : ∃ p, l[i]? = some p := ⟨_, List.getElem?_eq_getElem (by rw [HLN.out]; exact hin)⟩
      obtain ⟨hg2, rfl⟩ := HI.out.pos.2 (by omega)
      obtain ⟨Dp, dp, ep, Ep, np, kp, c0, c1', c2, c3, c4, hf, hpv⟩ := HI.out.row.elem (midN_len HI.out.eq HLN.out hj) (at_mid hx)
      have HX := Lib.hid hx; have HPV := Lib.hid hpv; have HLP := Lib.hid (HALL.out p (List.mem_of_getElem? hx))
      have hbq := HI.out.bq
      have HC : Hid (∀ W, Below wr.heap.size wr W → W.cell? ⟨g, i * 5, none⟩ = some (.int .i64 p.id.1) ∧ W.cell? ⟨g, i * 5 + 1, none⟩ = some (.int .i64 p.id.2) ∧ W.cell? ⟨g, i * 5 + 2, none⟩ = some (.slice Dp dp ep) ∧ W.cell? ⟨g, i * 5 + 3, none⟩ = some (strV p.txt) ∧ W.cell? ⟨g, i * 5 + 4, none⟩ = some (.slice Ep np kp) ∧ W.cell? ⟨z, 0, none⟩ = some (.int .i64 x.id.1) ∧ W.cell? ⟨z, 1, none⟩ = some (.int .i64 x.id.2) ∧ W.cell? ⟨z, 2, none⟩ = some (.slice D1 dn e1) ∧ W.cell? ⟨z, 3, none⟩ = some (strV x.txt) ∧ W.cell? ⟨z, 4, none⟩ = some (.slice E1 m k1)) := Lib.hid (fun W hb => by
        have z := hbq.below hb hbq.lt
        exact ⟨cell_b hb c0 hg2, cell_b hb c1' hg2, cell_b hb c2 hg2, cell_b hb c3 hg2, cell_b hb c4 hg2, z.cell 0 rfl, z.cell 1 rfl, z.cell 2 rfl, z.cell 3 rfl, z.cell 4 rfl⟩)
      have HG2 := Lib.hid hg2
      clear hx hpv hbq c0 c1' c2 c3 c4 hf
      obtain ⟨x1, y1, ho⟩ : ∃ x1 y1, outN (passN p x) = (x1, y1) := ⟨_, _, rfl⟩
      obtain ⟨bq, hbo⟩ : ∃ bo, (passN p x).isSome = bo := ⟨_, rfl⟩
      have HOO := Lib.hid ho; have HBO := Lib.hid hbo
      have H1 : Hid (∀ W, Below wr.heap.size wr W → Calls Try.prog 54 #[nmV p.id Dp dp ep p.txt Ep np kp, nmV x.id D1 dn e1 x.txt E1 m k1] W (NPassEndS W (QS S g wr) x1 y1 bq)) := Lib.hid (fun W h =>
        refPassN (QS S g wr) Dp dp ep Ep np kp D1 dn e1 E1 m k1 p x x1 y1 W bq (by rw [← HPV.out.l]; exact HLP.out.2.1) hm hd HLP.out.1 HI.out.lx (fun b hb => Nat.lt_of_lt_of_le (qs_lt HLO.out HZ2.out b hb) h.size) (HPV.out.to_ ((alike_below h).mono (qs_lt HLO.out HZ2.out))) (HI.out.ng.to_ ((alike_below h).mono (qs_lt HLO.out HZ2.out))) HOO.out HBO.out)
      clear ho hbo
      go_upto_region 5 with fail
      have hss : ∀ W, Below wr.heap.size wr W → Below wr.heap.size wr W ∧ W.cell? ⟨g, i * 5, none⟩ = some (.int .i64 p.id.1) ∧ W.cell? ⟨g, i * 5 + 1, none⟩ = some (.int .i64 p.id.2) ∧ W.cell? ⟨g, i * 5 + 2, none⟩ = some (.slice Dp dp ep) ∧ W.cell? ⟨g, i * 5 + 3, none⟩ = some (strV p.txt) ∧ W.cell? ⟨g, i * 5 + 4, none⟩ = some (.slice Ep np kp) ∧ W.cell? ⟨z, 0, none⟩ = some (.int .i64 x.id.1) ∧ W.cell? ⟨z, 1, none⟩ = some (.int .i64 x.id.2) ∧ W.cell? ⟨z, 2, none⟩ = some (.slice D1 dn e1) ∧ W.cell? ⟨z, 3, none⟩ = some (strV x.txt) ∧ W.cell? ⟨z, 4, none⟩ = some (.slice E1 m k1) := fun W hb => ⟨hb, HC.out W hb⟩
      have HSS := Lib.hid hss
      have HKD := Lib.hid (hss wr.drew (Cut2.belD0 wr))
      have HKA : Hid (∀ W o, (Below wr.heap.size wr W ∧ W.cell? ⟨g, i * 5, none⟩ = some (.int .i64 p.id.1) ∧ W.cell? ⟨g, i * 5 + 1, none⟩ = some (.int .i64 p.id.2) ∧ W.cell? ⟨g, i * 5 + 2, none⟩ = some (.slice Dp dp ep) ∧ W.cell? ⟨g, i * 5 + 3, none⟩ = some (strV p.txt) ∧ W.cell? ⟨g, i * 5 + 4, none⟩ = some (.slice Ep np kp) ∧ W.cell? ⟨z, 0, none⟩ = some (.int .i64 x.id.1) ∧ W.cell? ⟨z, 1, none⟩ = some (.int .i64 x.id.2) ∧ W.cell? ⟨z, 2, none⟩ = some (.slice D1 dn e1) ∧ W.cell? ⟨z, 3, none⟩ = some (strV x.txt) ∧ W.cell? ⟨z, 4, none⟩ = some (.slice E1 m k1)) → Below wr.heap.size wr (W.alloc o) ∧ (W.alloc o).cell? ⟨g, i * 5, none⟩ = some (.int .i64 p.id.1) ∧ (W.alloc o).cell? ⟨g, i * 5 + 1, none⟩ = some (.int .i64 p.id.2) ∧ (W.alloc o).cell? ⟨g, i * 5 + 2, none⟩ = some (.slice Dp dp ep) ∧ (W.alloc o).cell? ⟨g, i * 5 + 3, none⟩ = some (strV p.txt) ∧ (W.alloc o).cell? ⟨g, i * 5 + 4, none⟩ = some (.slice Ep np kp) ∧ (W.alloc o).cell? ⟨z, 0, none⟩ = some (.int .i64 x.id.1) ∧ (W.alloc o).cell? ⟨z, 1, none⟩ = some (.int .i64 x.id.2) ∧ (W.alloc o).cell? ⟨z, 2, none⟩ = some (.slice D1 dn e1) ∧ (W.alloc o).cell? ⟨z, 3, none⟩ = some (strV x.txt) ∧ (W.alloc o).cell? ⟨z, 4, none⟩ = some (.slice E1 m k1)) := Lib.hid (fun W o h => hss _ (h.1.alloc h.1.size o))
      have HKS : Hid (∀ W T v0 v1 v2 v3 v4, (Below wr.heap.size wr W ∧ W.cell? ⟨g, i * 5, none⟩ = some (.int .i64 p.id.1) ∧ W.cell? ⟨g, i * 5 + 1, none⟩ = some (.int .i64 p.id.2) ∧ W.cell? ⟨g, i * 5 + 2, none⟩ = some (.slice Dp dp ep) ∧ W.cell? ⟨g, i * 5 + 3, none⟩ = some (strV p.txt) ∧ W.cell? ⟨g, i * 5 + 4, none⟩ = some (.slice Ep np kp) ∧ W.cell? ⟨z, 0, none⟩ = some (.int .i64 x.id.1) ∧ W.cell? ⟨z, 1, none⟩ = some (.int .i64 x.id.2) ∧ W.cell? ⟨z, 2, none⟩ = some (.slice D1 dn e1) ∧ W.cell? ⟨z, 3, none⟩ = some (strV x.txt) ∧ W.cell? ⟨z, 4, none⟩ = some (.slice E1 m k1)) → wr.heap.size ≤ T → Below wr.heap.size wr (((((W.setCell ⟨T, 0, none⟩ v0).setCell ⟨T, 1, none⟩ v1).setCell ⟨T, 2, none⟩ v2).setCell ⟨T, 3, none⟩ v3).setCell ⟨T, 4, none⟩ v4) ∧ (((((W.setCell ⟨T, 0, none⟩ v0).setCell ⟨T, 1, none⟩ v1).setCell ⟨T, 2, none⟩ v2).setCell ⟨T, 3, none⟩ v3).setCell ⟨T, 4, none⟩ v4).cell? ⟨g, i * 5, none⟩ = some (.int .i64 p.id.1) ∧ (((((W.setCell ⟨T, 0, none⟩ v0).setCell ⟨T, 1, none⟩ v1).setCell ⟨T, 2, none⟩ v2).setCell ⟨T, 3, none⟩ v3).setCell ⟨T, 4, none⟩ v4).cell? ⟨g, i * 5 + 1, none⟩ = some (.int .i64 p.id.2) ∧ (((((W.setCell ⟨T, 0, none⟩ v0).setCell ⟨T, 1, none⟩ v1).setCell ⟨T, 2, none⟩ v2).setCell ⟨T, 3, none⟩ v3).setCell ⟨T, 4, none⟩ v4).cell? ⟨g, i * 5 + 2, none⟩ = some (.slice Dp dp ep) ∧ (((((W.setCell ⟨T, 0, none⟩ v0).setCell ⟨T, 1, none⟩ v1).setCell ⟨T, 2, none⟩ v2).setCell ⟨T, 3, none⟩ v3).setCell ⟨T, 4, none⟩ v4).cell? ⟨g, i * 5 + 3, none⟩ = some (strV p.txt) ∧ (((((W.setCell ⟨T, 0, none⟩ v0).setCell ⟨T, 1, none⟩ v1).setCell ⟨T, 2, none⟩ v2).setCell ⟨T, 3, none⟩ v3).setCell ⟨T, 4, none⟩ v4).cell? ⟨g, i * 5 + 4, none⟩ = some (.slice Ep np kp) ∧ (((((W.setCell ⟨T, 0, none⟩ v0).setCell ⟨T, 1, none⟩ v1).setCell ⟨T, 2, none⟩ v2).setCell ⟨T, 3, none⟩ v3).setCell ⟨T, 4, none⟩ v4).cell? ⟨z, 0, none⟩ = some (.int .i64 x.id.1) ∧ (((((W.setCell ⟨T, 0, none⟩ v0).setCell ⟨T, 1, none⟩ v1).setCell ⟨T, 2, none⟩ v2).setCell ⟨T, 3, none⟩ v3).setCell ⟨T, 4, none⟩ v4).cell? ⟨z, 1, none⟩ = some (.int .i64 x.id.2) ∧ (((((W.setCell ⟨T, 0, none⟩ v0).setCell ⟨T, 1, none⟩ v1).setCell ⟨T, 2, none⟩ v2).setCell ⟨T, 3, none⟩ v3).setCell ⟨T, 4, none⟩ v4).cell? ⟨z, 2, none⟩ = some (.slice D1 dn e1) ∧ (((((W.setCell ⟨T, 0, none⟩ v0).setCell ⟨T, 1, none⟩ v1).setCell ⟨T, 2, none⟩ v2).setCell ⟨T, 3, none⟩ v3).setCell ⟨T, 4, none⟩ v4).cell? ⟨z, 3, none⟩ = some (strV x.txt) ∧ (((((W.setCell ⟨T, 0, none⟩ v0).setCell ⟨T, 1, none⟩ v1).setCell ⟨T, 2, none⟩ v2).setCell ⟨T, 3, none⟩ v3).setCell ⟨T, 4, none⟩ v4).cell? ⟨z, 4, none⟩ = some (.slice E1 m k1)) := Lib.hid (fun W T v0 v1 v2 v3 v4 h hT => hss _ (below_set5 h.1 hT v0 v1 v2 v3 v4))
      clear hss
      go_cut [9, 10, 11, 39, 40] from 21 (fun s9 s10 s11 s39 s40 wx => ∃ (T U : Nat) (D2 : Option Addr) (d2 e2 : Nat) (E2 : Option Addr) (n2 k2 : Nat) (D3 : Option Addr) (d3 e3 : Nat) (E3 : Option Addr) (n3 k3 : Nat), s9 = .pointer (some ⟨T, 0, none⟩) ∧ s10 = .pointer (some ⟨U, 0, none⟩) ∧ s11 = .bool bq ∧ LayN wr wx S z g T U x1 D2 d2 e2 E2 n2 k2 y1 D3 d3 e3 E3 n3 k3 ∧ s39 = undef ∧ s40 = undef)
      case first =>
        obtain ⟨_, y0, y1, y2, y3, y4, x0, x1, x2, x3, x4⟩ := HSS.out wr (Below.refl _ _)
        go_region_held3 (fun W => Below wr.heap.size wr W ∧ W.cell? ⟨g, i * 5, none⟩ = some (.int .i64 p.id.1) ∧ W.cell? ⟨g, i * 5 + 1, none⟩ = some (.int .i64 p.id.2) ∧ W.cell? ⟨g, i * 5 + 2, none⟩ = some (.slice Dp dp ep) ∧ W.cell? ⟨g, i * 5 + 3, none⟩ = some (strV p.txt) ∧ W.cell? ⟨g, i * 5 + 4, none⟩ = some (.slice Ep np kp) ∧ W.cell? ⟨z, 0, none⟩ = some (.int .i64 x.id.1) ∧ W.cell? ⟨z, 1, none⟩ = some (.int .i64 x.id.2) ∧ W.cell? ⟨z, 2, none⟩ = some (.slice D1 dn e1) ∧ W.cell? ⟨z, 3, none⟩ = some (strV x.txt) ∧ W.cell? ⟨z, 4, none⟩ = some (.slice E1 m k1))
          (first
          | (with_reducible exact HKD.out)
          | (with_reducible exact HSS.out _ (Cut2.belD1 wr _))
          | (with_reducible exact HSS.out _ (Cut2.belD2 wr _ _))
          | (with_reducible exact hS1)
          | (with_reducible exact HKA.out _ _ hS1)
          | (with_reducible exact HKA.out _ _ (HKA.out _ _ hS1))
          | (with_reducible exact HKS.out _ _ _ _ _ _ _ hS1 tlp)
          | (with_reducible exact HKS.out _ _ _ _ _ _ _ hS1 tlq)
          | (with_reducible exact HKA.out _ _ (HKS.out _ _ _ _ _ _ _ hS1 tlp))
          | (with_reducible exact HKS.out _ _ _ _ _ _ _ (HKS.out _ _ _ _ _ _ _ hS1 tlp) tlq)
          | (with_reducible exact HKS.out _ _ _ _ _ _ _ (HKS.out _ _ _ _ _ _ _ hS1 tlq) tlp))
          (first
          | (go_at_call 54; (with_reducible refine (H1.out (wr.drew) (Cut2.belD0 wr )).mono ?_); rintro e u1 ⟨D2, d2, e2, E2, n2, k2, D3, d3, e3, E3, n3, k3, rfl, hn1, hn2, hb⟩; have hbc := Cut2.thrD0 hb; have HN1 := Lib.hid hn1; have HN2 := Lib.hid hn2; have hS1 := HSS.out u1 hbc; have HU1 := Lib.hid hbc; have tl1 := HU1.out.size; clear hb hbc hn1 hn2)
          | (go_at_call 54; (with_reducible refine (H1.out ((wr.alloc (.cells #[.int .i64 0, .int .i64 0, .slice none 0 0, .string ⟨#[]⟩, .slice none 0 0] 45)).drew) (Cut2.belD1 wr (.cells #[.int .i64 0, .int .i64 0, .slice none 0 0, .string ⟨#[]⟩, .slice none 0 0] 45))).mono ?_); rintro e u1 ⟨D2, d2, e2, E2, n2, k2, D3, d3, e3, E3, n3, k3, rfl, hn1, hn2, hb⟩; have hbc := Cut2.thrD1 hb; have HN1 := Lib.hid hn1; have HN2 := Lib.hid hn2; have zp := Cut2.newD1 hb; have tlp := Nat.le_refl wr.heap.size; have hS1 := HSS.out u1 hbc; have HU1 := Lib.hid hbc; have tl1 := HU1.out.size; have pp0 := zp.cell 0 (u := .int .i64 0) rfl; have ppf0 := zp.frozen 0; have pp1 := zp.cell 1 (u := .int .i64 0) rfl; have ppf1 := zp.frozen 1; have pp2 := zp.cell 2 (u := .slice none 0 0) rfl; have ppf2 := zp.frozen 2; have pp3 := zp.cell 3 (u := .string ⟨#[]⟩) rfl; have ppf3 := zp.frozen 3; have pp4 := zp.cell 4 (u := .slice none 0 0) rfl; have ppf4 := zp.frozen 4; have ppl := zp.lt; clear hb hbc hn1 hn2)
          | (go_at_call 54; (with_reducible refine (H1.out (((wr.alloc (.cells #[.int .i64 0, .int .i64 0, .slice none 0 0, .string ⟨#[]⟩, .slice none 0 0] 45)).alloc (.cells #[.int .i64 0, .int .i64 0, .slice none 0 0, .string ⟨#[]⟩, .slice none 0 0] 45)).drew) (Cut2.belD2 wr (.cells #[.int .i64 0, .int .i64 0, .slice none 0 0, .string ⟨#[]⟩, .slice none 0 0] 45) (.cells #[.int .i64 0, .int .i64 0, .slice none 0 0, .string ⟨#[]⟩, .slice none 0 0] 45))).mono ?_); rintro e u1 ⟨D2, d2, e2, E2, n2, k2, D3, d3, e3, E3, n3, k3, rfl, hn1, hn2, hb⟩; have hbc := Cut2.thrD2 hb; have HN1 := Lib.hid hn1; have HN2 := Lib.hid hn2; obtain ⟨zp, zq⟩ := Cut2.newD2 hb; have tlp := Nat.le_refl wr.heap.size; have zpq := Nat.lt_succ_self wr.heap.size; have tlq := Nat.le_succ wr.heap.size; have hS1 := HSS.out u1 hbc; have HU1 := Lib.hid hbc; have tl1 := HU1.out.size; have pp0 := zp.cell 0 (u := .int .i64 0) rfl; have ppf0 := zp.frozen 0; have pp1 := zp.cell 1 (u := .int .i64 0) rfl; have ppf1 := zp.frozen 1; have pp2 := zp.cell 2 (u := .slice none 0 0) rfl; have ppf2 := zp.frozen 2; have pp3 := zp.cell 3 (u := .string ⟨#[]⟩) rfl; have ppf3 := zp.frozen 3; have pp4 := zp.cell 4 (u := .slice none 0 0) rfl; have ppf4 := zp.frozen 4; have ppl := zp.lt; have rr0 := zq.cell 0 (u := .int .i64 0) rfl; have rrf0 := zq.frozen 0; have rr1 := zq.cell 1 (u := .int .i64 0) rfl; have rrf1 := zq.frozen 1; have rr2 := zq.cell 2 (u := .slice none 0 0) rfl; have rrf2 := zq.frozen 2; have rr3 := zq.cell 3 (u := .string ⟨#[]⟩) rfl; have rrf3 := zq.frozen 3; have rr4 := zq.cell 4 (u := .slice none 0 0) rfl; have rrf4 := zq.frozen 4; have rrl := zq.lt; clear hb hbc hn1 hn2))
        all_goals (try go_wp2_with fail)
        all_goals go_meet
        (with_reducible exact ⟨_, _, _, _, _, _, _, _, _, _, _, _, _, _, rfl, rfl, rfl, layN (lay5_aa HU1.out) HN1.out HN2.out HLO.out HG2.out HZ2.out HU1.out (Nat.le_refl _) (.inr (Nat.le_refl _)) (.inr (Nat.le_succ _)), rfl, rfl⟩)
        (with_reducible exact ⟨_, _, _, _, _, _, _, _, _, _, _, _, _, _, rfl, rfl, rfl, layN (lay5_aa HU1.out).swap HN1.out HN2.out HLO.out HG2.out HZ2.out HU1.out (Nat.le_refl _) (.inr (Nat.le_succ _)) (.inr (Nat.le_refl _)), rfl, rfl⟩)
        (with_reducible exact ⟨_, _, _, _, _, _, _, _, _, _, _, _, _, _, rfl, rfl, rfl, layN (lay5_sa HU1.out zp tlp) HN1.out HN2.out HLO.out HG2.out HZ2.out HU1.out (Nat.le_of_lt (size_lt1 wr _)) (.inl (size_lt1 wr _)) (.inr (Nat.le_refl _)), rfl, rfl⟩)
        (with_reducible exact ⟨_, _, _, _, _, _, _, _, _, _, _, _, _, _, rfl, rfl, rfl, layN (lay5_ss HU1.out zp zq (Nat.ne_of_lt zpq) tlp tlq) HN1.out HN2.out HLO.out HG2.out HZ2.out HU1.out (Nat.le_of_lt (size_lt2 wr _ _)) (.inl (size_lt2 wr _ _)) (.inl (size_lt2' wr _ _)), rfl, rfl⟩)
        (with_reducible exact ⟨_, _, _, _, _, _, _, _, _, _, _, _, _, _, rfl, rfl, rfl, layN (lay5_sa HU1.out zp tlp).swap HN1.out HN2.out HLO.out HG2.out HZ2.out HU1.out (Nat.le_of_lt (size_lt1 wr _)) (.inr (Nat.le_refl _)) (.inl (size_lt1 wr _)), rfl, rfl⟩)
        (with_reducible exact ⟨_, _, _, _, _, _, _, _, _, _, _, _, _, _, rfl, rfl, rfl, layN (lay5_ss HU1.out zq zp (Nat.ne_of_gt zpq) tlq tlp) HN1.out HN2.out HLO.out HG2.out HZ2.out HU1.out (Nat.le_of_lt (size_lt2 wr _ _)) (.inl (size_lt2' wr _ _)) (.inl (size_lt2 wr _ _)), rfl, rfl⟩)
      case rest =>
        obtain ⟨T, U, D2, d2, e2, E2, n2, k2, D3, d3, e3, E3, n3, k3, rfl, rfl, rfl, ⟨b_x, b_y, hlT, hlU, hb, hg1, hg2⟩, rfl, rfl⟩ := hcut
        clear HSS HKD HKA HKS H1 HC
        cases bq with
        | false =>
          have HNN : Hid (passN p x = none) := Lib.hid (by
            have h := HBO.out
            cases hp : passN p x with
            | none => rfl
            | some z => rw [hp] at h; cases h)
          have hB2 := HI.out.br.below hb HI.out.br.lt
          have hlt := hB2.lt
          have z0 := hB2.cell 0 rfl; have z1 := hB2.cell 1 rfl; have z2 := hB2.cell 2 rfl; have z3 := hB2.cell 3 rfl; have z4 := hB2.cell 4 rfl
          have f0 := hB2.frozen 0; have f1 := hB2.frozen 1; have f2 := hB2.frozen 2; have f3 := hB2.frozen 3; have f4 := hB2.frozen 4
          have b6 := blk5 hB2 (.int .i64 0) (.int .i64 0) (.slice none 0 0) (.string ⟨#[]⟩) (.slice none 0 0)
          have hw9 := below_set5 (below_mvz HBW.out hb HZ2.out) (Nat.le_succ z) (.int .i64 0) (.int .i64 0) (.slice none 0 0) (.string ⟨#[]⟩) (.slice none 0 0)
          clear hB2 b_x b_y hlT hlU HPV hg1 hg2
          go_wp2_with fail
          generalize (World.setCell (World.setCell (World.setCell (World.setCell (World.setCell wc ⟨z + 1, 0, none⟩ (.int .i64 0)) ⟨z + 1, 1, none⟩ (.int .i64 0)) ⟨z + 1, 2, none⟩ (.slice none 0 0)) ⟨z + 1, 3, none⟩ (.string ⟨#[]⟩)) ⟨z + 1, 4, none⟩ (.slice none 0 0)) = W9 at *
          clear z0 z1 z2 z3 z4 f0 f1 f2 f3 f4 hlt
          have u0 := b6.cell 0 rfl; have u1 := b6.cell 1 rfl; have u2 := b6.cell 2 rfl; have u3 := b6.cell 3 rfl; have u4 := b6.cell 4 rfl
          refine bodyPost_ret (v := .tuple #[.agg #[.int .i64 0, .int .i64 0, .slice none 0 0, .string ⟨#[]⟩, .slice none 0 0], .slice none 0 0, .bool false]) (by simp [results, Try.results33, go_sem, u0, u1, u2, u3, u4]) rfl ?_
          have he := one_step_none passN HX.out HI.out.eq HNN.out
          have ho := HO.out; have hs := HS.out
          rw [show overN l q = none from he] at ho hs
          injection ho with e1' e2'
          subst e1' e2' hs
          exact roS_none (by rw [HZ.out]; exact hw9)
        | true =>
          have HSM : Hid (passN p x = some (x1, y1)) := Lib.hid (by
            have h := HBO.out; have ho := HOO.out
            cases hp : passN p x with
            | none => rw [hp] at h; cases h
            | some z => rw [hp] at ho; exact congrArg some ho)
          obtain ⟨hid, hdp, htx, hll⟩ := (passN_keeps HSM.out).1
          obtain rfl : dn = d2 := by rw [← hg1.dl, hdp, HI.out.ng.dl]
          obtain rfl : m = n2 := by rw [← hg1.l, hll, HI.out.ng.l]
          clear hid hdp htx hll
          have hB1 := HI.out.bq.below hb HI.out.bq.lt
          have hst := ro_step HI.out HLN.out hin HX.out HLP.out.1 HSM.out hb hg1 hg2
          have hpos := HI.out.pos.1
          have hbs := below_row5 (below_set5 (below_mvz HBW.out hb HZ2.out) (Nat.le_refl z) (.int .i64 x1.id.1) (.int .i64 x1.id.2) (.slice D2 dn e2) (strV x1.txt) (.slice E2 m k2)) (show z ≤ g by omega) i (.int .i64 y1.id.1) (.int .i64 y1.id.2) (.slice D3 d3 e3) (strV y1.txt) (.slice E3 n3 k3)
          have hby := blk_set5 b_y (show U ≠ z by have := HI.out.bq.lt; omega) (.int .i64 x1.id.1) (.int .i64 x1.id.2) (.slice D2 dn e2) (strV x1.txt) (.slice E2 m k2)
          have HST := Lib.hid hst.2; have HROW := Lib.hid hst.1; have HBS := Lib.hid hbs; have HBY := Lib.hid hby
          have z0 := hB1.cell 0 rfl; have z1 := hB1.cell 1 rfl; have z2 := hB1.cell 2 rfl; have z3 := hB1.cell 3 rfl; have z4 := hB1.cell 4 rfl
          have f0 := hB1.frozen 0; have f1 := hB1.frozen 1; have f2 := hB1.frozen 2; have f3 := hB1.frozen 3; have f4 := hB1.frozen 4
          have v0 := b_x.cell 0 rfl; have v1 := b_x.cell 1 rfl; have v2 := b_x.cell 2 rfl; have v3 := b_x.cell 3 rfl; have v4 := b_x.cell 4 rfl
          have hlt := hB1.lt
          have hT1 := b_x.lt
          clear hst hbs hby hB1 b_x b_y HPV
          go_upto_region 9 with fail
          generalize (World.setCell (World.setCell (World.setCell (World.setCell (World.setCell wc ⟨z, 0, none⟩ (.int .i64 x1.id.1)) ⟨z, 1, none⟩ (.int .i64 x1.id.2)) ⟨z, 2, none⟩ (.slice D2 dn e2)) ⟨z, 3, none⟩ (strV x1.txt)) ⟨z, 4, none⟩ (.slice E2 m k2)) = W9 at *
          clear z0 z1 z2 z3 z4 f0 f1 f2 f3 f4 v0 v1 v2 v3 v4 hlt hT1
          obtain ⟨D9, d9, e9, E9, n9, k9, q0, q1, q2, q3, q4, hf9, _⟩ := HROW.out.elem (midN_len HI.out.eq HLN.out hj) (at_mid HX.out)
          have hby := HBY.out
          have v0 := hby.cell 0 rfl; have v1 := hby.cell 1 rfl; have v2 := hby.cell 2 rfl; have v3 := hby.cell 3 rfl; have v4 := hby.cell 4 rfl
          have f0 := hf9 (i * 5); have f1 := hf9 (i * 5 + 1); have f2 := hf9 (i * 5 + 2); have f3 := hf9 (i * 5 + 3); have f4 := hf9 (i * 5 + 4)
          clear hf9 hby
          go_wp2_with fail
          go_roundw
          case rel => exact ⟨i, x1, y1 :: post, D2, e2, E2, k2, by omega, rfl, HST.out, HBS.out⟩
          case measure => simp [intOf]

end Tg
end Go.Proofs.Ytdnkinajbebkoaa

set_option maxRecDepth 100000
namespace Go.Proofs.Ytdnkinajbebkoaa
open Go.RowKit
set_option linter.unusedVariables false
namespace Bb
open Tx Df Sq Hk Tr Pr Fl Pn Tg

/-- The blocks there are that are no row's of the two. -/
def PS (W : World) (v u : Value) : Nat → Prop := fun b => b < W.heap.size ∧ some b ≠ v.ownBlock ∧ some b ≠ u.ownBlock
/-- Two rows of patches, made since w. -/
structure Rows2 (w W : World) (v u : Value) (s g : List Nm) : Prop where
  a : Tg.OwnT W (PS W v u) w.heap.size v s
  b : Tg.OwnT W (PS W v u) w.heap.size u g
  ne : ∀ k, v.ownBlock = some k → u.ownBlock ≠ some k
  bw : Below w.heap.size w W
section
variable {w W W' : World} {v u v' u' : Value} {s g t : List Nm}
theorem ps_swap : ∀ b, PS W v u b → PS W u v b := fun b h => ⟨h.1, h.2.2, h.2.1⟩
theorem ps_size (hs : W.heap.size ≤ W'.heap.size) : ∀ b, PS W v u b → PS W' v u b := fun b h => ⟨Nat.lt_of_lt_of_le h.1 hs, h.2⟩
theorem rows2_start (w : World) : Rows2 w w (.slice none 0 0) (.slice none 0 0) [] [] := ⟨Tg.ownT_nil _ _ _, Tg.ownT_nil _ _ _, fun k h => (by cases h), Below.refl _ _⟩
theorem Rows2.swap (h : Rows2 w W v u s g) : Rows2 w W u v g s := ⟨h.b.mono ps_swap, h.a.mono ps_swap, fun k e e' => h.ne k e' e, h.bw⟩
theorem Rows2.below (h : Rows2 w W v u s g) (hb : Below W.heap.size W W') : Rows2 w W' v u s g := ⟨(h.a.below hb).mono (ps_size hb.size), (h.b.below hb).mono (ps_size hb.size), h.ne, below_mv h.bw hb⟩
/-- What is older than both lies in no row of theirs. -/
theorem Rows2.old (h : Rows2 w W v u s g) : ∀ b, b < w.heap.size → PS W v u b := fun b hb =>
  ⟨Nat.lt_of_lt_of_le hb h.bw.size, fun e => by have := Tg.ownT_ge h.a b e.symm; omega, fun e => by have := Tg.ownT_ge h.b b e.symm; omega⟩
/-- Appended onto the first one. -/
theorem Rows2.app (h : Rows2 w W v u s g) (ho : Tg.OwnT W' (PS W v u) w.heap.size v' t) (hg : W.grownBy W' v.ownBlock) (hw : ∀ b, v'.ownBlock = some b → v.ownBlock = some b ∨ W.heap.size ≤ b) : Rows2 w W' v' u t g := by
  have up : ∀ b, PS W v u b → PS W' v' u b := fun b hb => ⟨Nat.lt_of_lt_of_le hb.1 hg.size, fun e => by
    rcases hw b e.symm with h | h
    · exact hb.2.1 h.symm
    · have := hb.1; omega, hb.2.2⟩
  refine ⟨ho.mono up, (h.b.other hg ?_ fun b hb => hb.2.1).mono up, fun k e e' => ?_, h.bw.grown hg h.bw.size (fun k e => Tg.ownT_ge h.a k e)⟩
  · cases e : u.ownBlock with
    | none => exact .inl rfl
    | some k => exact .inr fun e' => h.ne k e'.symm e
  · rcases hw k e with h1 | h1
    · exact h.ne k h1 e'
    · have := Tg.ownT_lt h.b k e'; omega
theorem else_ps (h : Rows2 w W v u s g) (hx : Tg.OwnT W' (Else (PS W v u) W W' u') W.heap.size u' t) (hb : Below W.heap.size W W') : ∀ b, Else (PS W v u) W W' u' b → PS W' v u' b := fun b hq => by
  rcases hq.1 with h1 | h1
  · exact ⟨Nat.lt_of_lt_of_le h1.1 hb.size, h1.2.1, hq.2⟩
  · exact ⟨h1.2, fun e => by have := Tg.ownT_lt h.a b e.symm; omega, hq.2⟩
/-- Another one in the second one's place. -/
theorem Rows2.over (h : Rows2 w W v u s g) (hx : Tg.OwnT W' (Else (PS W v u) W W' u') W.heap.size u' t) (hb : Below W.heap.size W W') : Rows2 w W' v u' s t := by
  refine ⟨(h.a.below hb).mono fun b hq => ⟨Nat.lt_of_lt_of_le hq.1 hb.size, hq.2.1, fun e => ?_⟩, (hx.mono (else_ps h hx hb)).base h.bw.size, fun k e e' => ?_, below_mv h.bw hb⟩
  · have := Tg.ownT_ge hx b e.symm; have := hq.1; omega
  · have := Tg.ownT_ge hx k e'; have := Tg.ownT_lt h.a k e; omega
/-- A new one, made of what there was, in the first one's place. -/
theorem Rows2.front (h : Rows2 w W v u s g) (ho : Tg.OwnT W' (PS W v u) W.heap.size v' t) (hb : Below W.heap.size W W') : Rows2 w W' v' u t g := by
  have up : ∀ b, PS W v u b → PS W' v' u b := fun b hq => ⟨Nat.lt_of_lt_of_le hq.1 hb.size, fun e => (by have := Tg.ownT_ge ho b e.symm; have := hq.1; omega), hq.2.2⟩
  exact ⟨(ho.mono up).base h.bw.size, (h.b.below hb).mono up, fun k e e' => (by have := Tg.ownT_ge ho k e; have := Tg.ownT_lt h.b k e'; omega), below_mv h.bw hb⟩
theorem ps_lt : ∀ b, PS W v u b → b < W.heap.size := fun b h => h.1
end

/-- How a function ends that tells two lists of patches. -/
def PartEnd (w : World) (s g : List Nm) (e : Ending) (w' : World) : Prop :=
  ∃ A1 n1 c1 A2 n2 c2, e = .returned (.tuple #[.slice A1 n1 c1, .slice A2 n2 c2]) ∧ s.length = n1 ∧ n1 ≤ c1 ∧ RdN w' w'.heap.size A1 s ∧ g.length = n2 ∧ n2 ≤ c2 ∧ RdN w' w'.heap.size A2 g ∧ Below w.heap.size w w'
theorem Rows2.end_ {w W : World} {A1 A2 : Option Addr} {n1 c1 n2 c2 : Nat} {s g : List Nm} (h : Rows2 w W (.slice A1 n1 c1) (.slice A2 n2 c2) s g) : PartEnd w s g (.returned (.tuple #[.slice A1 n1 c1, .slice A2 n2 c2])) W := by
  obtain ⟨A, c, e, h1, h2⟩ := rdN_ownT h.a ps_lt
  injection e with e1 e2 e3
  subst e1 e2 e3
  obtain ⟨A, c, e, g1, g2⟩ := rdN_ownT h.b ps_lt
  injection e with e1 e2 e3
  subst e1 e2 e3
  exact ⟨_, _, _, _, _, _, rfl, rfl, h1, h2, rfl, g1, g2, h.bw⟩

end Bb
end Go.Proofs.Ytdnkinajbebkoaa

set_option maxRecDepth 100000
namespace Go.Proofs.Ytdnkinajbebkoaa
open Go.RowKit
set_option linter.unusedVariables false
namespace Bb
open Tx Df Sq Hk Tr Pr Fl Pn Tg

/-- All that there was is as it was, but for the blocks that R names. -/
structure Mine (R : Nat → Prop) (W W' : World) : Prop where
  os : W'.os = W.os
  tape : W'.tape = W.tape
  output : W'.output = W.output
  size : W.heap.size ≤ W'.heap.size
  block : ∀ k, k < W.heap.size → ¬ R k → W'.heap[k]? = W.heap[k]?
section
variable {R T : Nat → Prop} {W W' X : World}
theorem Mine.refl (R : Nat → Prop) (W : World) : Mine R W W := ⟨rfl, rfl, rfl, Nat.le_refl _, fun _ _ _ => rfl⟩
theorem mine_below (h : Below W.heap.size W W') : Mine R W W' := ⟨h.os, h.tape, h.output, h.size, fun k hk _ => h.block k hk⟩
theorem mine_grown {row : Option Nat} (h : W.grownBy W' row) (hr : ∀ k, row = some k → R k) : Mine R W W' := ⟨h.os, h.tape, h.output, h.size, fun k hk hn => h.block k hk fun e => hn (hr k e.symm)⟩
theorem mine_set (W : World) {b : Nat} (hR : R b) (j : Nat) (x : Value) : Mine R W (W.setCell ⟨b, j, none⟩ x) := mine_grown (grownBy_set W b j x) fun k e => by injection e with e; exact e ▸ hR
theorem Mine.trans (h : Mine R W X) (k : Mine T X W') (hT : ∀ b, T b → R b ∨ W.heap.size ≤ b) : Mine R W W' :=
  ⟨k.os.trans h.os, k.tape.trans h.tape, k.output.trans h.output, Nat.le_trans h.size k.size, fun b hb hn => (k.block b (Nat.lt_of_lt_of_le hb h.size) fun e => (hT b e).elim hn (fun h => by omega)).trans (h.block b hb hn)⟩
theorem Mine.mono (h : Mine R W W') (hT : ∀ b, R b → T b) : Mine T W W' := ⟨h.os, h.tape, h.output, h.size, fun b hb hn => h.block b hb fun e => hn (hT b e)⟩
theorem Mine.setn (h : Mine R W X) {b : Nat} (hb : R b ∨ W.heap.size ≤ b) (j : Nat) (x : Value) : Mine R W (X.setCell ⟨b, j, none⟩ x) := h.trans (mine_set (R := fun c => c = b) X rfl j x) (fun c e => e ▸ hb)
theorem Mine.set5 (h : Mine R W X) {b : Nat} (hb : R b ∨ W.heap.size ≤ b) (v0 v1 v2 v3 v4 : Value) : Mine R W (((((X.setCell ⟨b, 0, none⟩ v0).setCell ⟨b, 1, none⟩ v1).setCell ⟨b, 2, none⟩ v2).setCell ⟨b, 3, none⟩ v3).setCell ⟨b, 4, none⟩ v4) :=
  ((((h.setn hb 0 v0).setn hb 1 v1).setn hb 2 v2).setn hb 3 v3).setn hb 4 v4
theorem Mine.blk {b : Nat} {t : TypeId} {cs : Array Value} (h : Mine R W W') (hb : Blk W b t cs) (hn : ¬ R b) : Blk W' b t cs := (h.block b hb.lt hn).trans hb
theorem Mine.keeps (h : Mine R W W') (hR : ∀ b, R b → ∃ c t f, W.heap[b]? = some (.cells c t f)) (B : Nat) : KeepsFrom B W W' := ⟨h.size, fun k o _ hk ho => by
  refine (h.block k (Array.getElem?_eq_some_iff.1 hk).1 fun e => ?_).trans hk
  obtain ⟨c, t, f, e'⟩ := hR k e
  rw [hk] at e'
  cases e'
  cases ho⟩
theorem Mine.below {n : Nat} {w : World} (h : Mine R W W') (hb : Below n w W) (hR : ∀ b, R b → n ≤ b) (hn : n ≤ W.heap.size) : Below n w W' :=
  ⟨h.os.trans hb.os, h.tape.trans hb.tape, h.output.trans hb.output, Nat.le_trans hb.size h.size, fun k hk => (h.block k (by omega) fun e => by have := hR k e; omega).trans (hb.block k hk)⟩
theorem Mine.cells5 {A : Option Addr} {m : Nat} (h : Mine R W W') (hc : Cells5 W A m) (hA : ∀ a, A = some a → ¬ R a.block) : Cells5 W' A m := fun i hi => by
  obtain ⟨a, v0, v1, v2, v3, v4, rfl, c0, c1, c2, c3, c4⟩ := hc i hi
  have key : ∀ {p : Addr} {u : Value}, p.block = a.block → W.cell? p = some u → W'.cell? p = some u := fun {p u} e hu => (World.cell?_of_block (h.block p.block (World.block_lt_of_cell? W p hu) (by rw [e]; exact hA a rfl))).trans hu
  exact ⟨a, v0, v1, v2, v3, v4, rfl, key (add_block _ _) c0, key (add_block _ _) c1, key (add_block _ _) c2, key (add_block _ _) c3, key (add_block _ _) c4⟩
end

/-- The blocks there are that are no row's of the two, and that R does not name. -/
def PR (R : Nat → Prop) (W : World) (v u : Value) : Nat → Prop := fun b => b < W.heap.size ∧ ¬ R b ∧ some b ≠ v.ownBlock ∧ some b ≠ u.ownBlock
/-- Two rows of patches, made since w, beside the blocks that R names. -/
structure Rows3 (R : Nat → Prop) (w W : World) (v u : Value) (g s : List Nm) : Prop where
  a : Tg.OwnT W (PR R W v u) w.heap.size v g
  b : Tg.OwnT W (PR R W v u) w.heap.size u s
  ne : ∀ k, v.ownBlock = some k → u.ownBlock ≠ some k
  na : ∀ k, v.ownBlock = some k → ¬ R k
  nb : ∀ k, u.ownBlock = some k → ¬ R k
  bw : Below w.heap.size w W
  rl : ∀ k, R k → w.heap.size ≤ k ∧ k < W.heap.size
section
variable {R T : Nat → Prop} {w W W' : World} {v u v' u' : Value} {s g t : List Nm}
theorem pr_swap : ∀ b, PR R W v u b → PR R W u v b := fun b h => ⟨h.1, h.2.1, h.2.2.2, h.2.2.1⟩
theorem pr_size (hs : W.heap.size ≤ W'.heap.size) : ∀ b, PR R W v u b → PR R W' v u b := fun b h => ⟨Nat.lt_of_lt_of_le h.1 hs, h.2⟩
theorem pr_lt : ∀ b, PR R W v u b → b < W.heap.size := fun b h => h.1
theorem Rows3.swap (h : Rows3 R w W v u g s) : Rows3 R w W u v s g := ⟨h.b.mono pr_swap, h.a.mono pr_swap, fun k e e' => h.ne k e' e, h.nb, h.na, h.bw, h.rl⟩
theorem Rows3.below (h : Rows3 R w W v u g s) (hb : Below W.heap.size W W') : Rows3 R w W' v u g s :=
  ⟨(h.a.below hb).mono (pr_size hb.size), (h.b.below hb).mono (pr_size hb.size), h.ne, h.na, h.nb, below_mv h.bw hb, fun k e => ⟨(h.rl k e).1, Nat.lt_of_lt_of_le (h.rl k e).2 hb.size⟩⟩
/-- Other boxes, which are new. -/
theorem Rows3.more (h : Rows3 R w W v u g s) (hT : ∀ b, T b → R b ∨ W.heap.size ≤ b) (hb : Below W.heap.size W W') (hl : ∀ b, T b → b < W'.heap.size) : Rows3 T w W' v u g s := by
  have up : ∀ b, PR R W v u b → PR T W' v u b := fun b hq => ⟨Nat.lt_of_lt_of_le hq.1 hb.size, fun e => (hT b e).elim hq.2.1 (fun e => by have := hq.1; omega), hq.2.2⟩
  have lt1 : ∀ k, v.ownBlock = some k → k < W.heap.size := Tg.ownT_lt h.a
  have lt2 : ∀ k, u.ownBlock = some k → k < W.heap.size := Tg.ownT_lt h.b
  refine ⟨(h.a.below hb).mono up, (h.b.below hb).mono up, h.ne, fun k e e' => ?_, fun k e e' => ?_, below_mv h.bw hb, fun k e => ⟨?_, hl k e⟩⟩
  · rcases hT k e' with h1 | h1
    · exact h.na k e h1
    · have := lt1 k e; omega
  · rcases hT k e' with h1 | h1
    · exact h.nb k e h1
    · have := lt2 k e; omega
  · rcases hT k e with h1 | h1
    · exact (h.rl k h1).1
    · exact Nat.le_trans h.bw.size h1
/-- Fewer boxes. -/
theorem Rows3.less (h : Rows3 R w W v u g s) (hT : ∀ b, T b → R b) : Rows3 T w W v u g s := by
  have up : ∀ b, PR R W v u b → PR T W v u b := fun b hq => ⟨hq.1, fun e => hq.2.1 (hT b e), hq.2.2⟩
  exact ⟨h.a.mono up, h.b.mono up, h.ne, fun k e e' => h.na k e (hT k e'), fun k e e' => h.nb k e (hT k e'), h.bw, fun k e => h.rl k (hT k e)⟩
/-- A box is written. -/
theorem Rows3.set (h : Rows3 R w W v u g s) {b : Nat} (hb : R b) (j : Nat) (x : Value) : Rows3 R w (W.setCell ⟨b, j, none⟩ x) v u g s := by
  have hs : W.heap.size = (W.setCell ⟨b, j, none⟩ x).heap.size := by simp
  have up : ∀ c, PR R W v u c → PR R (W.setCell ⟨b, j, none⟩ x) v u c := pr_size (Nat.le_of_eq hs)
  exact ⟨(h.a.set (fun e => h.na b e.symm hb) (fun e => e.2.1 hb) j x).mono up, (h.b.set (fun e => h.nb b e.symm hb) (fun e => e.2.1 hb) j x).mono up, h.ne, h.na, h.nb, h.bw.setCell (p := ⟨b, j, none⟩) (h.rl b hb).1 x, fun k e => ⟨(h.rl k e).1, by rw [← hs]; exact (h.rl k e).2⟩⟩
theorem Rows3.set5 (h : Rows3 R w W v u g s) {b : Nat} (hb : R b) (v0 v1 v2 v3 v4 : Value) : Rows3 R w (((((W.setCell ⟨b, 0, none⟩ v0).setCell ⟨b, 1, none⟩ v1).setCell ⟨b, 2, none⟩ v2).setCell ⟨b, 3, none⟩ v3).setCell ⟨b, 4, none⟩ v4) v u g s :=
  ((((h.set hb 0 v0).set hb 1 v1).set hb 2 v2).set hb 3 v3).set hb 4 v4
/-- The first row is written, or appended onto. -/
theorem Rows3.app (h : Rows3 R w W v u g s) (ho : Tg.OwnT W' (PR R W v u) w.heap.size v' t) (hg : W.grownBy W' v.ownBlock) (hw : ∀ b, v'.ownBlock = some b → v.ownBlock = some b ∨ W.heap.size ≤ b) : Rows3 R w W' v' u t s := by
  have up : ∀ b, PR R W v u b → PR R W' v' u b := fun b hb => ⟨Nat.lt_of_lt_of_le hb.1 hg.size, hb.2.1, fun e => by
    rcases hw b e.symm with h | h
    · exact hb.2.2.1 h.symm
    · have := hb.1; omega, hb.2.2.2⟩
  refine ⟨ho.mono up, (h.b.other hg ?_ fun b hb => hb.2.2.1).mono up, fun k e e' => ?_, fun k e e' => ?_, h.nb, h.bw.grown hg h.bw.size (fun k e => Tg.ownT_ge h.a k e), fun k e => ⟨(h.rl k e).1, Nat.lt_of_lt_of_le (h.rl k e).2 hg.size⟩⟩
  · cases e : u.ownBlock with
    | none => exact .inl rfl
    | some k => exact .inr fun e' => h.ne k e'.symm e
  · rcases hw k e with h1 | h1
    · exact h.ne k h1 e'
    · have := Tg.ownT_lt h.b k e'; omega
  · rcases hw k e with h1 | h1
    · exact h.na k h1 e'
    · have := (h.rl k e').2; omega
/-- Another one, all of it new, in the first one's place. -/
theorem Rows3.over (h : Rows3 R w W v u g s) (hx : Tg.OwnT W' (fun b => Since W W' b ∧ some b ≠ v'.ownBlock) W.heap.size v' t) (hb : Below W.heap.size W W') : Rows3 R w W' v' u t s := by
  have lt2 : ∀ k, u.ownBlock = some k → k < W.heap.size := Tg.ownT_lt h.b
  have ge : ∀ k, v'.ownBlock = some k → W.heap.size ≤ k := Tg.ownT_ge hx
  have up1 : ∀ b, (Since W W' b ∧ some b ≠ v'.ownBlock) → PR R W' v' u b := fun b hq =>
    ⟨hq.1.2, fun e => by have := (h.rl b e).2; have := hq.1.1; omega, hq.2, fun e => by have := lt2 b e.symm; have := hq.1.1; omega⟩
  have up2 : ∀ b, PR R W v u b → PR R W' v' u b := fun b hq => ⟨Nat.lt_of_lt_of_le hq.1 hb.size, hq.2.1, fun e => by have := ge b e.symm; have := hq.1; omega, hq.2.2.2⟩
  exact ⟨(hx.mono up1).base h.bw.size, (h.b.below hb).mono up2, fun k e e' => by have := ge k e; have := lt2 k e'; omega, fun k e e' => by have := ge k e; have := (h.rl k e').2; omega, h.nb, below_mv h.bw hb, fun k e => ⟨(h.rl k e).1, Nat.lt_of_lt_of_le (h.rl k e).2 hb.size⟩⟩
/-- A block that is no row of cells is turned. -/
theorem Rows3.plain {row : Option Nat} (h : Rows3 R w W v u g s) (hg : W.grownBy W' row) (hr : ∀ r, row = some r → ∃ o : Obj, W.heap[r]? = some o ∧ o.isCells = false) (hB : ∀ r, row = some r → w.heap.size ≤ r) : Rows3 R w W' v u g s :=
  ⟨(h.a.plain hg hr).mono (pr_size hg.size), (h.b.plain hg hr).mono (pr_size hg.size), h.ne, h.na, h.nb, h.bw.grown hg h.bw.size hB, fun k e => ⟨(h.rl k e).1, Nat.lt_of_lt_of_le (h.rl k e).2 hg.size⟩⟩
/-- What is older than both lies in no row of theirs, and in no box. -/
theorem Rows3.old (h : Rows3 R w W v u g s) : ∀ b, b < w.heap.size → PR R W v u b := fun b hb =>
  ⟨Nat.lt_of_lt_of_le hb h.bw.size, fun e => by have := (h.rl b e).1; omega, fun e => by have := Tg.ownT_ge h.a b e.symm; omega, fun e => by have := Tg.ownT_ge h.b b e.symm; omega⟩
theorem rows3_nil (w : World) {W : World} (hb : Below w.heap.size w W) (hR : ∀ k, R k → w.heap.size ≤ k ∧ k < W.heap.size) : Rows3 R w W (.slice none 0 0) (.slice none 0 0) [] [] := ⟨Tg.ownT_nil _ _ _, Tg.ownT_nil _ _ _, fun k h => (by cases h), fun k h => (by cases h), fun k h => (by cases h), hb, hR⟩
theorem Rows3.rows (h : Rows3 R w W v u g s) : Rows2 w W v u g s := ⟨h.a.mono fun b hb => ⟨hb.1, hb.2.2⟩, h.b.mono fun b hb => ⟨hb.1, hb.2.2⟩, h.ne, h.bw⟩
/-- The blocks that a step of the kept row writes: its box, its row. -/
def RK (K : Nat) (v : Value) : Nat → Prop := fun b => b = K ∨ some b = v.ownBlock
theorem rk_cells {K : Nat} {t : TypeId} {cs : Array Value} (h : Rows3 R w W v u g s) (hb : Blk W K t cs) : ∀ b, RK K v b → ∃ c t f, W.heap[b]? = some (.cells c t f) := fun b hb' => by
  rcases hb' with rfl | e
  · exact ⟨_, _, _, hb⟩
  · obtain ⟨xs, hw, _⟩ := h.a
    rcases hw.2 with ⟨rfl, _⟩ | ⟨g, cap, cur, rfl, _, hgb, _⟩
    · cases e
    · injection e with e
      have e : b = g := e
      subst e
      exact ⟨_, _, _, hgb⟩
end

/-- What keep leaves. -/
def KeepEnd (R : Nat → Prop) (K : Nat) (w : World) (v u : Value) (g s : List Nm) (W : World) (e : Ending) (W' : World) : Prop :=
  ∃ v', e = .returned (.tuple #[]) ∧ Rows3 R w W' v' u g s ∧ Blk W' K 58 #[v'] ∧ Mine (RK K v) W W'
/-- What ahead and behind leave: the patch as it is then, and those that are kept. -/
def GoneEnd (R : Nat → Prop) (K : Nat) (w : World) (v u : Value) (g s : List Nm) (o : Option (Nm × List Nm)) (W : World) (e : Ending) (W' : World) : Prop :=
  ∃ D d c A m k v', e = .returned (.tuple #[nmV (o.getD (noN, g)).1.id D d c (o.getD (noN, g)).1.txt A m k, .bool o.isSome]) ∧ NG W' (PR R W' v' u) D d c A m k (o.getD (noN, g)).1 ∧ Rows3 R w W' v' u (o.getD (noN, g)).2 s ∧ Blk W' K 58 #[v'] ∧ Mine (fun b => b = K) W W'

end Bb
end Go.Proofs.Ytdnkinajbebkoaa

set_option maxRecDepth 100000
namespace Go.Proofs.Ytdnkinajbebkoaa
open Go.RowKit
set_option linter.unusedVariables false
set_option linter.unusedSimpArgs false
namespace Bb
open Tx Df Sq Hk Tr Pr Fl Pn Tg

/-- How own ends. -/
def OwnNEnd (w : World) (q : Nm) (dn m : Nat) (e : Ending) (w' : World) : Prop :=
  ∃ D c A d, e = .returned (nmV q.id D dn c q.txt A m d) ∧ NG w' (Since w w') D dn c A m d q ∧ Below w.heap.size w w'

set_option maxRecDepth 100000 in
set_option maxHeartbeats 4000000 in
theorem OwnNC (D : Option Addr) (dn dc : Nat) (E : Option Addr) (m k : Nat) (q : Nm) (w : World) (hm : m ≤ 1000) (hd : dn ≤ 100000) (hl : Lt q.l) (hv : NV w w.heap.size D dn dc E m k q) :
    Calls Try.prog 53 #[nmV q.id D dn dc q.txt E m k] w (OwnNEnd w q dn m) := by
  have b0 := (Blk.new w 45 #[.int .i64 q.id.1, .int .i64 q.id.2, .slice D dn dc, strV q.txt, .slice E m k]).alloc (.cells #[.int .i64 0, .int .i64 0, .slice none 0 0, .string ⟨#[]⟩, .slice none 0 0] 45)
  have b1 := Blk.new (w.alloc (.cells #[.int .i64 q.id.1, .int .i64 q.id.2, .slice D dn dc, strV q.txt, .slice E m k] 45)) 45 #[.int .i64 0, .int .i64 0, .slice none 0 0, .string ⟨#[]⟩, .slice none 0 0]
  have hba := two_box w (.cells #[.int .i64 q.id.1, .int .i64 q.id.2, .slice D dn dc, strV q.txt, .slice E m k] 45) (.cells #[.int .i64 0, .int .i64 0, .slice none 0 0, .string ⟨#[]⟩, .slice none 0 0] 45)
  simp only [World.size_alloc] at b1
  go_enter Try.func53, Try.ntmps53
  go_upto_region 1 with fail
  generalize ((w.alloc (.cells #[.int .i64 q.id.1, .int .i64 q.id.2, .slice D dn dc, strV q.txt, .slice E m k] 45)).alloc (.cells #[.int .i64 0, .int .i64 0, .slice none 0 0, .string ⟨#[]⟩, .slice none 0 0] 45)) = w1 at b0 b1 hba ⊢
  obtain ⟨z, hz⟩ : ∃ z, w.heap.size = z := ⟨_, rfl⟩
  have HV := Lib.hid (NV.mv hv hba)
  rw [hz] at b0 b1 ⊢
  have HB0 := Lib.hid b0; have HB1 := Lib.hid b1; have HBA := Lib.hid hba; have HZ := Lib.hid hz; have HM := Lib.hid hm; have HLQ := Lib.hid hl
  obtain ⟨N, hN⟩ : ∃ N, w1.heap.size = N := ⟨_, rfl⟩
  have HNW := Lib.hid hN
  have HA := Lib.hid (show Below w1.heap.size w1 (w1.alloc (.cells #[.int .i64 q.id.1, .int .i64 q.id.2, .slice D dn dc, strV q.txt, .slice E m k] 45)).drew from below_drewN ((Below.refl _ _).alloc (Nat.le_refl _) _) 1)
  have HBB := Lib.hid (show Below w1.heap.size w1 w1.drew from below_drewN (Below.refl _ _) 1)
  have HZA := Lib.hid (show Blk (w1.alloc (.cells #[.int .i64 q.id.1, .int .i64 q.id.2, .slice D dn dc, strV q.txt, .slice E m k] 45)).drew w1.heap.size 45 #[.int .i64 q.id.1, .int .i64 q.id.2, .slice D dn dc, strV q.txt, .slice E m k] from (Blk.new w1 _ _).drewN 1)
  have HSA := Lib.hid (RdI.mv HV.out.dr HA.out); have HSB := Lib.hid (RdI.mv HV.out.dr HBB.out)
  have HDL := Lib.hid HV.out.dl
  have HL1 : Hid (([] : List Id_).length + dn ≤ 100000) := Lib.hid (by simp; omega)
  have HLA : Hid (N ≤ (w1.alloc (.cells #[.int .i64 q.id.1, .int .i64 q.id.2, .slice D dn dc, strV q.txt, .slice E m k] 45)).drew.heap.size) := Lib.hid (by rw [← hN]; exact HA.out.size)
  have HLB : Hid (N ≤ w1.drew.heap.size) := Lib.hid (by rw [← hN]; exact HBB.out.size)
  have PA : Hid (∀ (X : World) (G : Nat), Below w1.heap.size w1 X → Blk X G 45 #[.int .i64 q.id.1, .int .i64 q.id.2, .slice D dn dc, strV q.txt, .slice E m k] → Calls Try.prog 43 #[.slice (some ⟨G, 0, none⟩) 1 1] X (fun e u => ∃ A c, e = .returned (.slice A m c) ∧ m ≤ c ∧ RdP u (Since X u) A q.l ∧ Below X.heap.size X u)) := Lib.hid (fun X G h1 h2 => first_all HM.out HLQ.out (HV.out.mv h1) h2)
  have PA0 := Lib.hid (PA.out _ _ HA.out HZA.out)
  have x0 := b0.cell 0 rfl; have x1 := b0.cell 1 rfl; have x2 := b0.cell 2 rfl; have x3 := b0.cell 3 rfl; have x4 := b0.cell 4 rfl; have zl := b0.lt
  clear b0 b1 hba hz hm hd hl hv hN
  go_region_law (first
    | ((with_reducible refine step_ownI (W := (w1.alloc (.cells #[.int .i64 q.id.1, .int .i64 q.id.2, .slice D dn dc, strV q.txt, .slice E m k] 45)).drew) (base := N) (c := dc) ?_ (.const (.slice none 0 0)) (.tmp 4) ?_ ?_ ?_ (ownI_nil _ N) HSA.out HDL.out HL1.out HLA.out ?_); rfl; rfl; rfl; rfl; intro v1 u1 ho hg; have hb1 := below_gr hg; have HU1 := Lib.hid (below_mv HA.out hb1); have HQ1 := Lib.hid (HZA.out.below hb1 HZA.out.lt); have PA1 := Lib.hid (PA.out _ _ HU1.out HQ1.out); obtain ⟨A2, c2, hv, hc2, hr2⟩ := rdI_own_hi ho; rw [List.nil_append] at hv hc2 hr2; rw [HDL.out] at hv hc2; subst hv; have HR2 := Lib.hid hr2; have HK2 := Lib.hid hc2; have HX1 := Lib.hid (Below.refl u1.heap.size u1); have pu := HB0.out.below HU1.out HB0.out.lt; have pu0 := pu.cell 0 rfl; have pu1 := pu.cell 1 rfl; have pu2 := pu.cell 2 rfl; have pu3 := pu.cell 3 rfl; have pu4 := pu.cell 4 rfl; have pul := pu.lt; clear hb1 ho hg hr2 hc2 pu)
    | ((with_reducible refine step_ownI (W := w1.drew) (base := N) (c := dc) ?_ (.const (.slice none 0 0)) (.tmp 4) ?_ ?_ ?_ (ownI_nil _ N) HSB.out HDL.out HL1.out HLB.out ?_); rfl; rfl; rfl; rfl; intro v1 u1 ho hg; have hb1 := below_gr hg; have HU0 := Lib.hid (below_mv HBB.out hb1); have hbx : Below u1.heap.size u1 (u1.alloc (.cells #[.int .i64 q.id.1, .int .i64 q.id.2, .slice D dn dc, strV q.txt, .slice E m k] 45)) := (Below.refl _ _).alloc (Nat.le_refl _) _; have HU1 := Lib.hid (below_mv HU0.out hbx); have PA1 := Lib.hid (PA.out _ _ HU1.out (Blk.new u1 45 #[.int .i64 q.id.1, .int .i64 q.id.2, .slice D dn dc, strV q.txt, .slice E m k])); obtain ⟨A2, c2, hv, hc2, hr2⟩ := rdI_own_hi ho; rw [List.nil_append] at hv hc2 hr2; rw [HDL.out] at hv hc2; subst hv; have HR2 := Lib.hid hr2; have HK2 := Lib.hid hc2; have HX1 := Lib.hid hbx; have pu := HB0.out.below HU0.out HB0.out.lt; have pu0 := pu.cell 0 rfl; have pu1 := pu.cell 1 rfl; have pu2 := pu.cell 2 rfl; have pu3 := pu.cell 3 rfl; have pu4 := pu.cell 4 rfl; have pul := pu.lt; clear hb1 hbx ho hg hr2 hc2 pu)
    | (go_simp; go_at_call 43; (with_reducible refine (PA1.out).mono ?_); rintro e u2 ⟨A1, c1, rfl, hk1, hr1, hb1⟩; have HU2 := Lib.hid (below_mv HU1.out hb1); have HR1 := Lib.hid (hr1.mono fun b h => (⟨Nat.le_trans HU1.out.size h.1, h.2⟩ : w1.heap.size ≤ b ∧ b < u2.heap.size)); have HK1 := Lib.hid hk1; have HD2 := Lib.hid ((HR2.out.to (fun b _ hl => (below_mv HX1.out hb1).block b hl)).mono fun b h => (⟨by have := HNW.out; have := h.1; omega, Nat.lt_of_lt_of_le h.2 (below_mv HX1.out hb1).size⟩ : w1.heap.size ≤ b ∧ b < u2.heap.size)); have pv := HB0.out.below HU2.out HB0.out.lt; have pv2 := pv.cell 2 rfl; have pv4 := pv.cell 4 rfl; have pf2 := pv.frozen 2; have pf4 := pv.frozen 4; have pvl := pv.lt; clear hb1 hr1 hk1 pv)
    | (go_simp; go_at_call 43; (with_reducible refine (PA0.out).mono ?_); rintro e u0 ⟨A1, c1, rfl, hk1, hr1, hb1⟩; have HU0 := Lib.hid (below_mv HA.out hb1); have HR0 := Lib.hid (hr1.mono fun b h => (⟨Nat.le_trans HA.out.size h.1, h.2⟩ : w1.heap.size ≤ b ∧ b < u0.heap.size)); have HK1 := Lib.hid hk1; have HSC := Lib.hid (RdI.mv HV.out.dr HU0.out); have HLC : Hid (N ≤ u0.heap.size) := Lib.hid (by rw [← HNW.out]; exact HU0.out.size); have pu := HB0.out.below HU0.out HB0.out.lt; have pu0 := pu.cell 0 rfl; have pu1 := pu.cell 1 rfl; have pu2 := pu.cell 2 rfl; have pu3 := pu.cell 3 rfl; have pu4 := pu.cell 4 rfl; have pul := pu.lt; clear hb1 hr1 hk1 pu)
    | ((with_reducible refine step_ownI (W := u0) (base := N) (c := dc) ?_ (.const (.slice none 0 0)) (.tmp 4) ?_ ?_ ?_ (ownI_nil _ N) HSC.out HDL.out HL1.out HLC.out ?_); rfl; rfl; rfl; rfl; intro v1 u2 ho hg; have hb1 := below_gr hg; have HU2 := Lib.hid (below_mv HU0.out hb1); obtain ⟨A2, c2, hv, hc2, hr2⟩ := rdI_own_hi ho; rw [List.nil_append] at hv hc2 hr2; rw [HDL.out] at hv hc2; subst hv; have HD2 := Lib.hid (hr2.mono fun b h => (⟨by have := HNW.out; have := h.1; omega, h.2⟩ : w1.heap.size ≤ b ∧ b < u2.heap.size)); have HK2 := Lib.hid hc2; have HR1 := Lib.hid ((HR0.out.to ((alike_below hb1).mono fun b h => h.2)).mono fun b h => (⟨h.1, Nat.lt_of_lt_of_le h.2 hb1.size⟩ : w1.heap.size ≤ b ∧ b < u2.heap.size)); have pv := HB0.out.below HU2.out HB0.out.lt; have pv2 := pv.cell 2 rfl; have pv4 := pv.cell 4 rfl; have pf2 := pv.frozen 2; have pf4 := pv.frozen 4; have pvl := pv.lt; clear hb1 ho hg hr2 hc2 pv))
  all_goals
    have b2 : Blk ((u2.setCell ⟨z, 2, none⟩ (.slice A2 dn c2)).setCell ⟨z, 4, none⟩ (.slice A1 m c1)) z 45 #[.int .i64 q.id.1, .int .i64 q.id.2, .slice A2 dn c2, strV q.txt, .slice A1 m c1] := ((HB0.out.below HU2.out HB0.out.lt).set 2 _).set 4 _
    have b3 : Blk ((u2.setCell ⟨z, 2, none⟩ (.slice A2 dn c2)).setCell ⟨z, 4, none⟩ (.slice A1 m c1)) (z + 1) 45 #[.int .i64 0, .int .i64 0, .slice none 0 0, .string ⟨#[]⟩, .slice none 0 0] := ((HB1.out.below HU2.out HB1.out.lt).set_ne (by omega) 2 _).set_ne (by omega) 4 _
    have hb3 : Below w.heap.size w ((u2.setCell ⟨z, 2, none⟩ (.slice A2 dn c2)).setCell ⟨z, 4, none⟩ (.slice A1 m c1)) := ((below_mv HBA.out HU2.out).setCell (p := ⟨z, 2, none⟩) (Nat.le_of_eq HZ.out) _).setCell (p := ⟨z, 4, none⟩) (Nat.le_of_eq HZ.out) _
    have hz1 : z + 1 < w1.heap.size := HB1.out.lt
    have al : Fl.Alike (· ≠ z) u2 ((u2.setCell ⟨z, 2, none⟩ (.slice A2 dn c2)).setCell ⟨z, 4, none⟩ (.slice A1 m c1)) := (alike_set u2 z 2 _).trans_ (alike_set _ z 4 _) (by simp)
    have hd3 := HD2.out.to (al.mono fun b h => by have := h.1; omega)
    have hr3 := HR1.out.to (al.mono fun b h => by have := h.1; omega)
    have hs3 : ((u2.setCell ⟨z, 2, none⟩ (.slice A2 dn c2)).setCell ⟨z, 4, none⟩ (.slice A1 m c1)).heap.size = u2.heap.size := by simp
    generalize ((u2.setCell ⟨z, 2, none⟩ (.slice A2 dn c2)).setCell ⟨z, 4, none⟩ (.slice A1 m c1)) = w3 at *
    have HZ1 := Lib.hid hz1; have HB3 := Lib.hid hb3; have HD3 := Lib.hid hd3; have HR3 := Lib.hid hr3; have HS3 := Lib.hid hs3; have B2 := Lib.hid b2; have B3 := Lib.hid b3
    clear hz1 hb3 hd3 hr3 hs3 b2 b3 al pv2 pv4 pf2 pf4 pvl x0 x1 x2 x3 x4 zl PA PA0
    have x0 := B2.out.cell 0 rfl; have x1 := B2.out.cell 1 rfl; have x2 := B2.out.cell 2 rfl; have x3 := B2.out.cell 3 rfl; have x4 := B2.out.cell 4 rfl
    have y0 := B3.out.cell 0 rfl; have y1 := B3.out.cell 1 rfl; have y2 := B3.out.cell 2 rfl; have y3 := B3.out.cell 3 rfl; have y4 := B3.out.cell 4 rfl
    have g0 := B3.out.frozen 0; have g1 := B3.out.frozen 1; have g2 := B3.out.frozen 2; have g3 := B3.out.frozen 3; have g4 := B3.out.frozen 4
    have hl0 := B2.out.lt; have hl1 := B3.out.lt
    go_wp2_with fail
    have b14 := Tg.blk5 B3.out (.int .i64 q.id.1) (.int .i64 q.id.2) (.slice A2 dn c2) (strV q.txt) (.slice A1 m c1)
    have hb4 := below_set5 HB3.out (show w.heap.size ≤ z + 1 by have := HZ.out; omega) (.int .i64 q.id.1) (.int .i64 q.id.2) (.slice A2 dn c2) (strV q.txt) (.slice A1 m c1)
    have al4 := alike_set5 w3 (z + 1) (.int .i64 q.id.1) (.int .i64 q.id.2) (.slice A2 dn c2) (strV q.txt) (.slice A1 m c1)
    have hd4 := HD3.out.to (al4.mono fun b h => by have := h.1; have := HZ1.out; omega)
    have hr4 := HR3.out.to (al4.mono fun b h => by have := h.1; have := HZ1.out; omega)
    have hs4 : (World.setCell (World.setCell (World.setCell (World.setCell (World.setCell w3 ⟨z + 1, 0, none⟩ (.int .i64 q.id.1)) ⟨z + 1, 1, none⟩ (.int .i64 q.id.2)) ⟨z + 1, 2, none⟩ (.slice A2 dn c2)) ⟨z + 1, 3, none⟩ (strV q.txt)) ⟨z + 1, 4, none⟩ (.slice A1 m c1)).heap.size = w3.heap.size := by simp
    generalize (World.setCell (World.setCell (World.setCell (World.setCell (World.setCell w3 ⟨z + 1, 0, none⟩ (.int .i64 q.id.1)) ⟨z + 1, 1, none⟩ (.int .i64 q.id.2)) ⟨z + 1, 2, none⟩ (.slice A2 dn c2)) ⟨z + 1, 3, none⟩ (strV q.txt)) ⟨z + 1, 4, none⟩ (.slice A1 m c1)) = w4 at *
    have t0 := b14.cell 0 rfl; have t1 := b14.cell 1 rfl; have t2 := b14.cell 2 rfl; have t3 := b14.cell 3 rfl; have t4 := b14.cell 4 rfl
    refine bodyPost_ret (v := .agg #[.int .i64 q.id.1, .int .i64 q.id.2, .slice A2 dn c2, strV q.txt, .slice A1 m c1]) (by simp [results, Try.results53, go_sem, t0, t1, t2, t3, t4]) rfl ?_
    have hw := HBA.out.size
    have hs3 := HS3.out
    exact ⟨A2, c2, A1, c1, rfl, ⟨HV.out.dl, HK2.out, HV.out.dm, hd4.mono fun b h => (⟨Nat.le_trans hw h.1, by have := h.2; omega⟩ : w.heap.size ≤ b ∧ b < w4.heap.size), HV.out.tm, HV.out.l, HK1.out, HV.out.m, hr4.mono fun b h => (⟨Nat.le_trans hw h.1, by have := h.2; omega⟩ : w.heap.size ≤ b ∧ b < w4.heap.size)⟩, hb4⟩

end Bb
end Go.Proofs.Ytdnkinajbebkoaa

set_option maxRecDepth 100000
namespace Go.Proofs.Ytdnkinajbebkoaa
open Go.RowKit
set_option linter.unusedVariables false
set_option linter.unusedSimpArgs false
namespace Tg
open Tx Df Sq Hk Tr Pr Fl Pn

def exB : Ch := ⟨0, [98], [], ⟨0, [], []⟩⟩
def exQ : Nm := ⟨(0, 2), [], [], [exB]⟩
theorem pg_exB (W : World) (S : Nat → Prop) : PG W S none 0 0 none 0 0 exB :=
  ⟨rfl, rfl, Nat.le_refl _, Nat.le_refl _, by decide, by decide, .inl rfl, .inl rfl, by unfold I64; decide, by unfold I64; decide, by decide, by decide, (fun x hx => by cases hx), (fun x hx => by cases hx)⟩
theorem nv_exQ {W : World} {N b : Nat} (h : RdP W (· < N) (some ⟨b, 0, none⟩) [exB]) : NV W N none 0 0 (some ⟨b, 0, none⟩) 1 1 exQ :=
  ⟨rfl, Nat.le_refl _, by decide, .inl rfl, by decide, rfl, Nat.le_refl _, by decide, h⟩
theorem lt_exN : Lt exN.l := fun x hx => by
  have : x = exA := by simpa [exN] using hx
  rw [this]
  decide
theorem lt_exB : Lt [exB] := fun x hx => by
  have : x = exB := by simpa using hx
  rw [this]
  decide
theorem lt_exQ : Lt exQ.l := lt_exB
instance : DecidableEq Nm := fun p q => decidable_of_iff (sameN p q = true) sameN_iff
theorem three_blk (w : World) (t0 t1 t2 : TypeId) (c0 c1 c2 : Array Value) : let W := ((w.alloc (.cells c0 t0)).alloc (.cells c1 t1)).alloc (.cells c2 t2)
    Blk W w.heap.size t0 c0 ∧ Blk W (w.heap.size + 1) t1 c1 ∧ Blk W (w.heap.size + 1 + 1) t2 c2 ∧ Below w.heap.size w W := by
  intro W
  have b0 := ((Blk.new w t0 c0).alloc (.cells c1 t1)).alloc (.cells c2 t2)
  have b1 := (Blk.new (w.alloc (.cells c0 t0)) t1 c1).alloc (.cells c2 t2)
  have b2 := Blk.new ((w.alloc (.cells c0 t0)).alloc (.cells c1 t1)) t2 c2
  simp only [World.size_alloc] at b1 b2
  exact ⟨b0, b1, b2, ((((Below.refl _ _).alloc (Nat.le_refl _) _).alloc (by simp) _).alloc (by simp; omega) _)⟩

end Tg
end Go.Proofs.Ytdnkinajbebkoaa

set_option maxRecDepth 100000
namespace Go.Proofs.Ytdnkinajbebkoaa
open Go.RowKit
set_option linter.unusedVariables false
namespace Tg
open Tx Df Sq Hk Tr Pr Fl Pn

theorem lightN_lt {p : Nm} {m : Nat} (h : lightN p m = true) : Lt p.l ∧ p.l.length ≤ m ∧ p.deps.length ≤ 100 := by
  have h0 := h
  unfold lightN fewP at h
  simp only [Bool.and_eq_true, decide_eq_true_eq, List.all_eq_true] at h
  exact ⟨fun x hx => okP_light (h.1.2 x hx), h.1.1, h.2.1⟩
theorem few_all {l : List Nm} {m : Nat} (h : fewN l m = true) : ∀ p ∈ l, Lt p.l ∧ p.l.length ≤ 10 ∧ p.deps.length ≤ 100 := fun p hp => lightN_lt (fewN_all h p hp)
/-- What two patches tell. -/
theorem outN_some {o : Option (Nm × Nm)} {x y : Nm} (h : outN o = (x, y)) (hs : o.isSome = true) : o = some (x, y) := by
  cases o with
  | none => cases hs
  | some z => exact congrArg some h
theorem outN_none {o : Option (Nm × Nm)} {x y : Nm} (h : outN o = (x, y)) (hs : o.isSome = false) : x = noN ∧ y = noN := by
  cases o with
  | none => injection h with h1 h2; exact ⟨h1.symm, h2.symm⟩
  | some z => cases hs
theorem noN_lt : Lt noN.l := fun x hx => by cases hx
/-- What is told is of few changes, and light. -/
theorem out_few {p q x y : Nm} {bo : Bool} (ho : outN (passN p q) = (x, y)) (hs : (passN p q).isSome = bo) (hp : Lt p.l ∧ p.l.length ≤ 10 ∧ p.deps.length ≤ 100) (hq : Lt q.l ∧ q.l.length ≤ 10 ∧ q.deps.length ≤ 100) :
    (Lt x.l ∧ x.l.length ≤ 10 ∧ x.deps.length ≤ 100) ∧ (Lt y.l ∧ y.l.length ≤ 10 ∧ y.deps.length ≤ 100) := by
  cases bo with
  | false =>
    obtain ⟨rfl, rfl⟩ := outN_none ho hs
    exact ⟨⟨noN_lt, Nat.zero_le _, Nat.zero_le _⟩, noN_lt, Nat.zero_le _, Nat.zero_le _⟩
  | true =>
    have h := outN_some ho hs
    obtain ⟨⟨_, a2, _, a4⟩, _, b2, _, b4⟩ := passN_keeps h
    obtain ⟨l1, l2⟩ := passN_lt h hp.1 hq.1
    exact ⟨⟨l1, by rw [a4]; exact hq.2.1, by rw [a2]; exact hq.2.2⟩, l2, by rw [b4]; exact hp.2.1, by rw [b2]; exact hp.2.2⟩

end Tg
end Go.Proofs.Ytdnkinajbebkoaa

set_option maxRecDepth 100000
namespace Go.Proofs.Ytdnkinajbebkoaa
open Go.RowKit
set_option linter.unusedVariables false
set_option linter.unusedSimpArgs false
namespace Pn
open Tx Df Sq Hk Tr Pr Fl
attribute [local go_sem] eq_id

theorem sameN_ref (p q : Nm) : sameN p q = (listP p.l q.l && (decide (p.id = q.id) && (decide (p.txt = q.txt) && decide (p.deps = q.deps)))) := by
  have h : listP p.l q.l = decide (p.l = q.l) := by rw [Bool.eq_iff_iff, listP_iff, decide_eq_true_eq]
  unfold sameN
  rw [h]

set_option maxHeartbeats 4000000 in
theorem refSameN (D : Option Addr) (dn dc : Nat) (A : Option Addr) (n c : Nat) (D' : Option Addr) (dn' dc' : Nat) (A' : Option Addr) (n' c' : Nat) (p q : Nm) (w : World) (b : Bool) (hv : NV w w.heap.size D dn dc A n c p) (hv' : NV w w.heap.size D' dn' dc' A' n' c' q) (hle : n ≤ 1000) (hd : dn ≤ 100000) (hb : sameN p q = b) :
    Calls Try.prog 34 #[nmV p.id D dn dc p.txt A n c, nmV q.id D' dn' dc' q.txt A' n' c'] w (BoolEnd w b) := by
  have hbe := hb.symm.trans (sameN_ref p q)
  clear hb
  obtain ⟨⟨o1, o2⟩, ds, t, l⟩ := p
  obtain ⟨⟨v1, v2⟩, ds', t', l'⟩ := q
  dsimp only at hbe hv hv' ⊢
  have HV := Lib.hid hv; have HV' := Lib.hid hv'; have HB := Lib.hid hbe
  have B0 := Lib.hid ((Blk.new w 45 #[.int .i64 o1, .int .i64 o2, .slice D dn dc, strV t, .slice A n c]).alloc (.cells #[.int .i64 v1, .int .i64 v2, .slice D' dn' dc', strV t', .slice A' n' c'] 45))
  have b1 := Blk.new (w.alloc (.cells #[.int .i64 o1, .int .i64 o2, .slice D dn dc, strV t, .slice A n c] 45)) 45 #[.int .i64 v1, .int .i64 v2, .slice D' dn' dc', strV t', .slice A' n' c']
  simp only [World.size_alloc] at b1
  have B1 := Lib.hid b1
  have HBA := Lib.hid (two_box w (.cells #[.int .i64 o1, .int .i64 o2, .slice D dn dc, strV t, .slice A n c] 45) (.cells #[.int .i64 v1, .int .i64 v2, .slice D' dn' dc', strV t', .slice A' n' c'] 45))
  have HN := Lib.hid (show ds.length = dn from hv.dl); have HN' := Lib.hid (show ds'.length = dn' from hv'.dl)
  clear hv hv' hbe b1
  go_enter Try.func34, Try.ntmps34
  go_upto_region 1 with fail
  generalize ((w.alloc (.cells #[.int .i64 o1, .int .i64 o2, .slice D dn dc, strV t, .slice A n c] 45)).alloc (.cells #[.int .i64 v1, .int .i64 v2, .slice D' dn' dc', strV t', .slice A' n' c'] 45)) = w1 at B0 B1 HBA ⊢
  obtain ⟨z, hz⟩ : ∃ z, w.heap.size = z := ⟨_, rfl⟩
  rw [hz] at B0 B1 ⊢
  clear hz
  have x4 := B0.out.cell 4 rfl; have y4 := B1.out.cell 4 rfl
  go_wp2_with fail
  obtain ⟨bl, hbl⟩ : ∃ b, listP l l' = b := ⟨_, rfl⟩
  have hvm := HV.out.mv HBA.out
  have hvm' := HV'.out.mv HBA.out
  refine (refListL A n c A' n' c' l l' w1 bl hvm.l hvm'.l (by omega) hvm.r hvm'.r hbl).mono ?_
  rintro e w2 ⟨rfl, hb3⟩
  have HL := Lib.hid hbl
  replace HBA := Lib.hid (below_mv HBA.out hb3); replace B0 := Lib.hid (B0.out.below hb3 B0.out.lt); replace B1 := Lib.hid (B1.out.below hb3 B1.out.lt)
  clear x4 y4 hbl hvm hvm' hb3
  cases bl with
  | false =>
    go_wp2
    go_ret
    exact ⟨ret_bool (by rw [HB.out, HL.out]; simp), HBA.out⟩
  | true =>
    have x0 := B0.out.cell 0 rfl; have x1 := B0.out.cell 1 rfl; have y0 := B1.out.cell 0 rfl; have y1 := B1.out.cell 1 rfl
    by_cases h1 : o1 = v1
    · subst h1
      by_cases h2 : o2 = v2
      · subst h2
        have x3 := B0.out.cell 3 rfl; have y3 := B1.out.cell 3 rfl
        by_cases h3 : t = t'
        · subst h3
          have x2 := B0.out.cell 2 rfl; have y2 := B1.out.cell 2 rfl
          by_cases h4 : dn = dn'
          · subst h4
            replace HB := Lib.hid (show b = decide (ds = ds') by rw [HB.out, HL.out]; simp)
            clear HL
            go_wp2_with fail
            clear x0 x1 y0 y1 x3 y3 x2 y2
            have z2 := B0.out.cell 2 rfl; have y2 := B1.out.cell 2 rfl
            go_loopw [6] (fun i wr => ∃ k : Nat, k ≤ dn ∧ i = .int .i64 k ∧ ds.take k = ds'.take k ∧ ∃ d, wr = w2.drewN d) (fun i _ => dn - (intOf i).toNat)
            case atStart => exact ⟨0, Nat.zero_le _, rfl, by simp, 0, rfl⟩
            case round =>
              obtain ⟨k, hk, rfl, hall, d, rfl⟩ := hrel
              have HA := Lib.hid hall; clear hall
              by_cases hlt : k < dn
              · obtain ⟨a, x, rfl, _, hx, c0, c1⟩ := (RdI.mv HV.out.dr HBA.out).elem (k := k) (by rw [HN.out]; exact hlt)
                obtain ⟨a', y, rfl, _, hy, g0, g1⟩ := (RdI.mv HV'.out.dr HBA.out).elem (k := k) (by rw [HN'.out]; exact hlt)
                have HX := Lib.hid hx; have HY := Lib.hid hy
                clear hx hy
                obtain ⟨x1, x2⟩ := x
                obtain ⟨y1, y3⟩ := y
                dsimp only at c0 c1 g0 g1
                have hki : (k : Int) < (dn : Int) := by omega
                by_cases he : x1 = y1 ∧ x2 = y3
                · obtain ⟨rfl, rfl⟩ := he
                  have HE : Hid (ds.take (k + 1) = ds'.take (k + 1)) := Lib.hid (by rw [take_at HX.out, take_at HY.out, HA.out])
                  go_wp2
                  go_quiet (fail)
                  go_wp2
                  refine ⟨⟨k + 1, by omega, by go_num, HE.out, _, rfl⟩, by simp [intOf]; omega⟩
                · have HD : Hid (decide (ds = ds') = false) := Lib.hid (decide_eq_false (fun e => he (by
                    subst e
                    have h2 := HX.out
                    rw [HY.out] at h2
                    injection h2 with h2
                    injection h2 with h3 h4
                    exact ⟨h3.symm, h4.symm⟩)))
                  by_cases h1 : x1 = y1
                  · have h2 : (x2 == y3) = false := by rw [beq_eq_false_iff_ne]; exact fun e => he ⟨h1, e⟩
                    subst h1
                    clear he
                    go_wp2
                    go_quiet (fail)
                    go_wp2
                    go_ret
                    exact ⟨ret_bool (by rw [HB.out, HD.out]), below_drewN (below_drewN HBA.out _) _⟩
                  · have h2 : (x1 == y1) = false := by rw [beq_eq_false_iff_ne]; exact h1
                    clear he h1
                    go_wp2
                    go_quiet (fail)
                    go_wp2
                    go_ret
                    exact ⟨ret_bool (by rw [HB.out, HD.out]), below_drewN (below_drewN HBA.out _) _⟩
              · have HD : Hid (decide (ds = ds') = true) := Lib.hid (by
                  have := HA.out
                  rw [List.take_of_length_le (by rw [HN.out]; omega), List.take_of_length_le (by rw [HN'.out]; omega)] at this
                  exact decide_eq_true this)
                go_wp2
                go_ret
                exact ⟨ret_bool (by rw [HB.out, HD.out]), below_drewN HBA.out _⟩
          · have e4 : ((dn : Int) != (dn' : Int)) = true := by rw [bne_iff_ne]; omega
            have HD : Hid (decide (ds = ds') = false) := Lib.hid (decide_eq_false (fun e => h4 (by rw [← HN.out, ← HN'.out, e])))
            clear h4
            go_wp2
            go_ret
            exact ⟨ret_bool (by rw [HB.out, HD.out]; simp), HBA.out⟩
        · have e3 : (t == t') = false := by simpa using h3
          have HT := Lib.hid (decide_eq_false h3)
          clear h3
          go_wp2
          go_ret
          exact ⟨ret_bool (by rw [HB.out, HT.out]; simp), HBA.out⟩
      · have e2 : (o2 == v2) = false := by rw [beq_eq_false_iff_ne]; exact h2
        have HI : Hid (decide ((o1, o2) = (o1, v2)) = false) := Lib.hid (decide_eq_false (fun e => h2 (by injection e)))
        clear h2
        go_wp2
        go_ret
        exact ⟨ret_bool (by rw [HB.out, HI.out]; simp), HBA.out⟩
    · have e1 : (o1 == v1) = false := by rw [beq_eq_false_iff_ne]; exact h1
      have HI : Hid (decide ((o1, o2) = (v1, v2)) = false) := Lib.hid (decide_eq_false (fun e => h1 (by injection e)))
      clear h1
      go_wp2
      go_ret
      exact ⟨ret_bool (by rw [HB.out, HI.out]; simp), HBA.out⟩

end Pn
end Go.Proofs.Ytdnkinajbebkoaa

set_option maxRecDepth 100000
namespace Go.Proofs.Ytdnkinajbebkoaa
open Go.RowKit
set_option linter.unusedVariables false
set_option linter.unusedSimpArgs false
namespace Tg
open Tx Df Sq Hk Tr Pr Fl Pn

set_option maxHeartbeats 2000000 in
theorem refListN (A : Option Addr) (n c : Nat) (A' : Option Addr) (c' : Nat) (l : List Nm) (w : World) (hn : l.length = n) (hle : n ≤ 1000000) (hall : ∀ p ∈ l, Lt p.l ∧ p.l.length ≤ 10 ∧ p.deps.length ≤ 100) (hR : RdN w w.heap.size A l) (hR' : RdN w w.heap.size A' l) :
    Calls Try.prog 14 #[.slice A n c, .slice A' n c'] w (BoolEnd w true) := by
  have HN := Lib.hid hn; have HR := Lib.hid hR; have HR' := Lib.hid hR'; have HA := Lib.hid hall
  clear hn hR hR' hall
  go_enter Try.func14, Try.ntmps14
  go_wp2_with fail
  go_loopw [5] (fun i wr => ∃ k : Nat, k ≤ n ∧ i = .int .i64 (k : Int) ∧ Below w.heap.size w wr) (fun i _ => n - (intOf i).toNat)
  case atStart => exact ⟨0, Nat.zero_le _, rfl, Below.refl _ _⟩
  case round =>
    obtain ⟨k, hk, rfl, hbw⟩ := hrel
    have HBW := Lib.hid hbw; clear hbw
    by_cases hlt : k < n
    · have hki : (k : Int) < (n : Int) := by omega
      obtain ⟨a, x, D, i, j, E, m, d, rfl, hS, hx, c0, c1, c2, c3, c4, c5⟩ := ((HR.out.mv HBW.out).elem (k := k) (by rw [HN.out]; exact hlt))
      obtain ⟨a', x', D', i', j', E', m', d', rfl, hS', hx', g0, g1, g2, g3, g4, g5⟩ := ((HR'.out.mv HBW.out).elem (k := k) (by rw [HN.out]; exact hlt))
      obtain rfl : x = x' := by rw [hx] at hx'; exact Option.some.inj hx'
      have HX := Lib.hid (HA.out x (List.mem_of_getElem? hx)); have HP := Lib.hid c5; have HP' := Lib.hid g5
      clear hx hx' c5 g5
      have hba : (a.add (k * 5)).block < wr.heap.size := by rw [add_block]; exact hS
      have hba' : (a'.add (k * 5)).block < wr.heap.size := by rw [add_block]; exact hS'
      have HC : Hid (∀ W, Below wr.heap.size wr W → W.cell? (a.add (k * 5)) = some (.int .i64 x.id.1) ∧ W.cell? (⟨(a.add (k * 5)).block, (a.add (k * 5)).off + 1, none⟩) = some (.int .i64 x.id.2) ∧ W.cell? (⟨(a.add (k * 5)).block, (a.add (k * 5)).off + 2, none⟩) = some (.slice D i j) ∧ W.cell? (⟨(a.add (k * 5)).block, (a.add (k * 5)).off + 3, none⟩) = some (strV x.txt) ∧ W.cell? (⟨(a.add (k * 5)).block, (a.add (k * 5)).off + 4, none⟩) = some (.slice E m d) ∧ W.cell? (a'.add (k * 5)) = some (.int .i64 x.id.1) ∧ W.cell? (⟨(a'.add (k * 5)).block, (a'.add (k * 5)).off + 1, none⟩) = some (.int .i64 x.id.2) ∧ W.cell? (⟨(a'.add (k * 5)).block, (a'.add (k * 5)).off + 2, none⟩) = some (.slice D' i' j') ∧ W.cell? (⟨(a'.add (k * 5)).block, (a'.add (k * 5)).off + 3, none⟩) = some (strV x.txt) ∧ W.cell? (⟨(a'.add (k * 5)).block, (a'.add (k * 5)).off + 4, none⟩) = some (.slice E' m' d')) := Lib.hid (fun W hb => ⟨cellB c0 hb hba, cellB c1 hb hba, cellB c2 hb hba, cellB c3 hb hba, cellB c4 hb hba, cellB g0 hb hba', cellB g1 hb hba', cellB g2 hb hba', cellB g3 hb hba', cellB g4 hb hba'⟩)
      have HD := Lib.hid (show Below wr.heap.size wr wr.drew from below_drewN (Below.refl _ _) 1)
      have HKD := Lib.hid (HC.out wr.drew HD.out)
      have PX : Hid (∀ W, Below wr.heap.size wr W → Calls Try.prog 34 #[nmV x.id D i j x.txt E m d, nmV x.id D' i' j' x.txt E' m' d'] W (BoolEnd W true)) := Lib.hid (fun W hb => refSameN D i j E m d D' i' j' E' m' d' x x W true (HP.out.mv hb) (HP'.out.mv hb) (by have h1 := HP.out.l; have := HX.out; omega) (by have h1 := HP.out.dl; have := HX.out; omega) (sameN_self _))
      go_upto_region 6 with fail
      go_region_held3 (fun W => W.cell? (a.add (k * 5)) = some (.int .i64 x.id.1) ∧ W.cell? (⟨(a.add (k * 5)).block, (a.add (k * 5)).off + 1, none⟩) = some (.int .i64 x.id.2) ∧ W.cell? (⟨(a.add (k * 5)).block, (a.add (k * 5)).off + 2, none⟩) = some (.slice D i j) ∧ W.cell? (⟨(a.add (k * 5)).block, (a.add (k * 5)).off + 3, none⟩) = some (strV x.txt) ∧ W.cell? (⟨(a.add (k * 5)).block, (a.add (k * 5)).off + 4, none⟩) = some (.slice E m d) ∧ W.cell? (a'.add (k * 5)) = some (.int .i64 x.id.1) ∧ W.cell? (⟨(a'.add (k * 5)).block, (a'.add (k * 5)).off + 1, none⟩) = some (.int .i64 x.id.2) ∧ W.cell? (⟨(a'.add (k * 5)).block, (a'.add (k * 5)).off + 2, none⟩) = some (.slice D' i' j') ∧ W.cell? (⟨(a'.add (k * 5)).block, (a'.add (k * 5)).off + 3, none⟩) = some (strV x.txt) ∧ W.cell? (⟨(a'.add (k * 5)).block, (a'.add (k * 5)).off + 4, none⟩) = some (.slice E' m' d'))
        (first | (with_reducible exact HKD.out) | (with_reducible exact hS1))
        (first
          | (go_at_call 34; (with_reducible refine (PX.out wr.drew HD.out).mono ?_); rintro e w2 ⟨rfl, hb2⟩; have hbu := HD.out.trans (hb2.mono HD.out.size); have hS1 := HC.out w2 hbu; have HBW2 := Lib.hid (below_mv HBW.out hbu); clear hb2 hbu))
      clear hS1 HKD HC PX HD c0 c1 c2 c3 c4 g0 g1 g2 g3 g4
      go_wp2_with fail
      exact ⟨⟨k + 1, by omega, by go_num, HBW2.out⟩, by simp [intOf]; omega⟩
    · go_wp2
      go_ret
      exact ⟨rfl, HBW.out⟩

/-- A light patch of few changes. -/
abbrev Lit (p : Nm) : Prop := Lt p.l ∧ p.l.length ≤ 10 ∧ p.deps.length ≤ 100
theorem pass_lit {p q x y : Nm} (h : passN p q = some (x, y)) (hp : Lit p) (hq : Lit q) : Lit x ∧ Lit y := out_few (bo := true) (by rw [h]; rfl) (by rw [h]; rfl) hp hq
theorem over_lit {l m : List Nm} {q x : Nm} {bo : Bool} (ho : outO (overN l q) = (x, m)) (hs : (overN l q).isSome = bo) (hl : ∀ p ∈ l, Lit p) (hq : Lit q) : Lit x ∧ ∀ y ∈ m, Lit y := by
  cases h : overN l q with
  | none =>
    rw [h] at ho
    injection ho with h1 h2
    subst h1 h2
    exact ⟨⟨noN_lt, Nat.zero_le _, Nat.zero_le _⟩, fun y hy => by cases hy⟩
  | some z =>
    rw [h] at ho
    have e : overN l q = some (x, m) := by rw [h]; exact congrArg some ho
    exact one_all (Q := Lit) passN (fun h hp hq => pass_lit h hp hq) e hl hq
theorem over_all {l : List Nm} (hl : ∀ p ∈ l, Lit p) : ∀ p ∈ l, Lt p.l ∧ p.l.length ≤ 1000 ∧ p.deps.length ≤ 100000 := fun p hp => ⟨(hl p hp).1, by have := (hl p hp).2.1; omega, by have := (hl p hp).2.2; omega⟩

end Tg
end Go.Proofs.Ytdnkinajbebkoaa

set_option maxRecDepth 100000
namespace Go.Proofs.Ytdnkinajbebkoaa
open Go.RowKit
set_option linter.unusedVariables false
set_option linter.unusedSimpArgs false
namespace Bb
open Tx Df Sq Hk Tr Pr Fl Pn Tg

section
variable {R : Nat → Prop} {w W W' : World} {v u : Value} {s g : List Nm}
/-- What is new lies in no row, and in no box. -/
theorem pr_since (h : Rows3 R w W v u g s) : ∀ b, Since W W' b → PR R W' v u b := fun b hb =>
  ⟨hb.2, fun e => by have := (h.rl b e).2; have := hb.1; omega, fun e => by have := Tg.ownT_lt h.a b e.symm; have := hb.1; omega, fun e => by have := Tg.ownT_lt h.b b e.symm; have := hb.1; omega⟩
end

set_option maxRecDepth 100000 in
set_option maxHeartbeats 4000000 in
theorem KeepC {R : Nat → Prop} {w W : World} {v u : Value} {s g : List Nm} (K : Nat) (D : Option Addr) (dn dc : Nat) (E : Option Addr) (m k : Nat) (p : Nm) (hR : R K) (h : Rows3 R w W v u g s) (hb : Blk W K 58 #[v]) (hm : m ≤ 1000) (hd : dn ≤ 100000) (hl : Lt p.l) (hg : g.length ≤ 1000) (hv : NV W W.heap.size D dn dc E m k p) :
    Calls Try.prog 31 #[.pointer (some ⟨K, 0, none⟩), nmV p.id D dn dc p.txt E m k] W (KeepEnd R K w v u (g ++ [p]) s W) := by
  obtain ⟨Av, cv, rfl, hcv⟩ := Tg.ownT_slice h.a
  obtain ⟨nv, hnv⟩ : ∃ nv, g.length = nv := ⟨_, rfl⟩
  rw [hnv] at h hb hcv hg ⊢
  have HNV := Lib.hid hnv
  have hba : Below W.heap.size W (W.alloc (.cells #[.int .i64 p.id.1, .int .i64 p.id.2, .slice D dn dc, strV p.txt, .slice E m k] 45)) := (Below.refl _ _).alloc (Nat.le_refl _) _
  have HBZ := Lib.hid (Blk.new W 45 #[.int .i64 p.id.1, .int .i64 p.id.2, .slice D dn dc, strV p.txt, .slice E m k])
  have HB := Lib.hid (hb.below hba hb.lt); have HO := Lib.hid (h.below hba); have HV := Lib.hid (NV.mv hv hba); have HBA := Lib.hid hba
  have HLK : Hid (K < W.heap.size) := Lib.hid hb.lt
  have HM := Lib.hid hm; have HD := Lib.hid hd; have HLP := Lib.hid hl; have HRK := Lib.hid hR
  have HN1 : Hid (nv + 1 ≤ 100000) := Lib.hid (by omega)
  have HBW := Lib.hid h.bw.size
  clear hba hb h hv hnv hcv hm hd hl hR hg
  go_enter Try.func31, Try.ntmps31
  go_upto_region 1 with fail
  generalize (W.alloc (.cells #[.int .i64 p.id.1, .int .i64 p.id.2, .slice D dn dc, strV p.txt, .slice E m k] 45)) = W1 at HBZ HB HO HV HBA ⊢
  obtain ⟨z, hz⟩ : ∃ z, W.heap.size = z := ⟨_, rfl⟩
  rw [hz] at HBZ ⊢
  have HZ := Lib.hid hz
  clear hz
  have b0 := HB.out.cell 0 rfl; have bl := HB.out.lt
  have z0 := HBZ.out.cell 0 rfl; have z1 := HBZ.out.cell 1 rfl; have z2 := HBZ.out.cell 2 rfl; have z3 := HBZ.out.cell 3 rfl; have z4 := HBZ.out.cell 4 rfl; have zl := HBZ.out.lt
  have HDR := Lib.hid (show Below W1.heap.size W1 W1.drew from below_drewN (Below.refl _ _) 1)
  have PO := Lib.hid (OwnNC D dn dc E m k p W1.drew HM.out HD.out HLP.out (HV.out.mv HDR.out))
  go_region_law (first
    | (go_simp; go_at_call 53; (with_reducible refine (PO.out).mono ?_); rintro e u1 ⟨D1, c1, A1, k1, rfl, hn, hb1⟩; have HU1 := Lib.hid (below_mv HDR.out hb1); have hx : Below u1.heap.size u1 (u1.alloc (.cells #[.int .i64 p.id.1, .int .i64 p.id.2, .slice D1 dn c1, strV p.txt, .slice A1 m k1] 45)) := (Below.refl _ _).alloc (Nat.le_refl _) _; have HU2 := Lib.hid (below_mv HU1.out hx); have HO2 := Lib.hid (HO.out.below HU2.out); have HNG := Lib.hid ((hn.to_ (fun b _ hl => hx.block b hl)).mono fun b hb => pr_since HO.out b (⟨Nat.le_trans HDR.out.size hb.1, Nat.lt_of_lt_of_le hb.2 hx.size⟩ : Since W1 (u1.alloc (.cells #[.int .i64 p.id.1, .int .i64 p.id.2, .slice D1 dn c1, strV p.txt, .slice A1 m k1] 45)) b)); have HSR := Lib.hid (one_src (Blk.new u1 45 (Tg.nmC p D1 dn c1 A1 m k1)) HNG.out); have HSS : Hid (∀ b, PR R (u1.alloc (.cells #[.int .i64 p.id.1, .int .i64 p.id.2, .slice D1 dn c1, strV p.txt, .slice A1 m k1] 45)) (.slice Av nv cv) u b → b < (u1.alloc (.cells #[.int .i64 p.id.1, .int .i64 p.id.2, .slice D1 dn c1, strV p.txt, .slice A1 m k1] 45)).heap.size ∧ some b ≠ (Value.slice Av nv cv).ownBlock) := Lib.hid (fun b hb => ⟨hb.1, hb.2.2.1⟩); have HBS := Lib.hid HO2.out.bw.size; have HLL : Hid (g.length + 1 ≤ 100000) := Lib.hid (by rw [HNV.out]; exact HN1.out); have B1 := HB.out.below HU1.out HB.out.lt; have b01 := B1.cell 0 rfl; have bl1 := B1.lt; have HB1 := Lib.hid (HB.out.below HU2.out HB.out.lt); clear hn hb1 hx B1)
    | ((with_reducible refine step_ownT (W := (u1.alloc (.cells #[.int .i64 p.id.1, .int .i64 p.id.2, .slice D1 dn c1, strV p.txt, .slice A1 m k1] 45))) (base := w.heap.size) (c := 1) ?_ (.tmp 8) (.tmp 11) ?_ ?_ ?_ HO2.out.a HSR.out ?_ HLL.out HSS.out HBS.out ?_); rfl; rfl; rfl; rfl; rfl; intro v' W' ho hg hw; obtain ⟨A2, c2, hv2, hc2⟩ := Tg.ownT_slice ho; obtain ⟨n2, hn2⟩ : ∃ n, List.length (g ++ [p]) = n := ⟨_, rfl⟩; rw [hn2] at hv2; clear hn2 hc2; subst hv2; have HR3 := Lib.hid (HO2.out.app ho hg hw); have HB3 := Lib.hid (HB1.out.gr hg (fun e => HO2.out.na K e.symm HRK.out)); have HMI := Lib.hid (((mine_below HBA.out : Mine (RK K (.slice Av nv cv)) W W1).trans (mine_below HU2.out : Mine (RK K (.slice Av nv cv)) W1 (u1.alloc (.cells #[.int .i64 p.id.1, .int .i64 p.id.2, .slice D1 dn c1, strV p.txt, .slice A1 m k1] 45))) (fun b hb => .inl hb)).trans (mine_grown hg (fun k e => .inr e.symm) : Mine (RK K (.slice Av nv cv)) (u1.alloc (.cells #[.int .i64 p.id.1, .int .i64 p.id.2, .slice D1 dn c1, strV p.txt, .slice A1 m k1] 45)) W') (fun b hb => .inl hb)); have b1 := HB3.out.cell 0 rfl; have bf1 := HB3.out.frozen 0; have bl3 := HB3.out.lt; clear ho hg hw))
  all_goals
    go_end0
    exact ⟨_, rfl, HR3.out.set HRK.out 0 _, HB3.out.set 0 _, HMI.out.trans (mine_set _ (.inl rfl : RK K (.slice Av nv cv) K) 0 _) (fun b hb => .inl hb)⟩

/-- What stands when Over has told: the patch in a box of its own. -/
def OverLay (w : World) (x : Nm) (ys : List Nm) (v : Value) (F : Nat) (W : World) : Prop :=
  ∃ D d e E m k, Blk W F 45 (Tg.nmC x D d e E m k) ∧ NG W (fun b => (Since w W b ∧ some b ≠ v.ownBlock) ∧ b ≠ F) D d e E m k x ∧ Tg.OwnT W (fun b => (Since w W b ∧ some b ≠ v.ownBlock) ∧ b ≠ F) w.heap.size v ys ∧ w.heap.size ≤ F ∧ v.ownBlock ≠ some F ∧ Below w.heap.size w W
theorem over_lay_a {w u1 : World} {x : Nm} {ys : List Nm} {D E : Option Addr} {d c m k : Nat} {v : Value} (hn : NG u1 (fun b => Since w u1 b ∧ some b ≠ v.ownBlock) D d c E m k x) (ho : Tg.OwnT u1 (fun b => Since w u1 b ∧ some b ≠ v.ownBlock) w.heap.size v ys) (hb : Below w.heap.size w u1) :
    OverLay w x ys v u1.heap.size (u1.alloc (.cells (Tg.nmC x D d c E m k) 45)) := by
  have hx : Below u1.heap.size u1 (u1.alloc (.cells (Tg.nmC x D d c E m k) 45)) := (Below.refl _ _).alloc (Nat.le_refl _) _
  have up : ∀ b, (Since w u1 b ∧ some b ≠ v.ownBlock) → ((Since w (u1.alloc (.cells (Tg.nmC x D d c E m k) 45)) b ∧ some b ≠ v.ownBlock) ∧ b ≠ u1.heap.size) := fun b h => ⟨⟨⟨h.1.1, Nat.lt_of_lt_of_le h.1.2 hx.size⟩, h.2⟩, Nat.ne_of_lt h.1.2⟩
  exact ⟨D, d, c, E, m, k, Blk.new _ _ _, (hn.to_ (fun b _ hl => hx.block b hl)).mono up, (ho.below hx).mono up, hb.size, fun e => absurd (Tg.ownT_lt ho _ e) (Nat.lt_irrefl _), below_mv hb hx⟩
theorem over_lay_b {w w0 u1 : World} {x : Nm} {ys : List Nm} {D E : Option Addr} {d c m k F : Nat} {v : Value} (hn : NG u1 (fun b => Since w0 u1 b ∧ some b ≠ v.ownBlock) D d c E m k x) (ho : Tg.OwnT u1 (fun b => Since w0 u1 b ∧ some b ≠ v.ownBlock) w0.heap.size v ys) (hb : Below w0.heap.size w0 u1) (hw : Below w.heap.size w w0) (hF : w.heap.size ≤ F) (hf : Blk w0 F 45 #[.int .i64 0, .int .i64 0, .slice none 0 0, .string ⟨#[]⟩, .slice none 0 0]) :
    OverLay w x ys v F (((((u1.setCell ⟨F, 0, none⟩ (.int .i64 x.id.1)).setCell ⟨F, 1, none⟩ (.int .i64 x.id.2)).setCell ⟨F, 2, none⟩ (.slice D d c)).setCell ⟨F, 3, none⟩ (strV x.txt)).setCell ⟨F, 4, none⟩ (.slice E m k)) := by
  have hlt := hf.lt
  have al := alike_set5 u1 F (.int .i64 x.id.1) (.int .i64 x.id.2) (.slice D d c) (strV x.txt) (.slice E m k)
  have hs : u1.heap.size = (((((u1.setCell ⟨F, 0, none⟩ (.int .i64 x.id.1)).setCell ⟨F, 1, none⟩ (.int .i64 x.id.2)).setCell ⟨F, 2, none⟩ (.slice D d c)).setCell ⟨F, 3, none⟩ (strV x.txt)).setCell ⟨F, 4, none⟩ (.slice E m k)).heap.size := by simp
  have hne : ∀ b, (Since w0 u1 b ∧ some b ≠ v.ownBlock) → b ≠ F := fun b h e => by have := h.1.1; omega
  have ge := fun k e => Tg.ownT_ge ho k e
  have hv : v.ownBlock ≠ some F := fun e => by have := ge F e; omega
  have hsz := hw.size
  have up : ∀ b, (Since w0 u1 b ∧ some b ≠ v.ownBlock) → ((Since w (((((u1.setCell ⟨F, 0, none⟩ (.int .i64 x.id.1)).setCell ⟨F, 1, none⟩ (.int .i64 x.id.2)).setCell ⟨F, 2, none⟩ (.slice D d c)).setCell ⟨F, 3, none⟩ (strV x.txt)).setCell ⟨F, 4, none⟩ (.slice E m k)) b ∧ some b ≠ v.ownBlock) ∧ b ≠ F) := fun b h => ⟨⟨⟨Nat.le_trans hsz h.1.1, by rw [← hs]; exact h.1.2⟩, h.2⟩, hne b h⟩
  exact ⟨D, d, c, E, m, k, Tg.blk5 (hf.below hb hlt) _ _ _ _ _, (hn.to_ (al.mono hne)).mono up, ((ho.set5 (fun e => hv e.symm) (fun h => hne F h rfl) _ _ _ _ _).mono up).base hsz, hF, hv, below_set5 (below_mv hw hb) hF _ _ _ _ _⟩
set_option maxRecDepth 100000 in
set_option maxHeartbeats 8000000 in
theorem AheadC {R : Nat → Prop} {w W : World} {v u : Value} {s g : List Nm} (K : Nat) (D : Option Addr) (dn dc : Nat) (E : Option Addr) (m k : Nat) (p : Nm) (hR : R K) (h : Rows3 R w W v u g s) (hb : Blk W K 58 #[v]) (hp : Tg.Lit p) (hg : ∀ x ∈ g, Tg.Lit x) (hgl : g.length ≤ 1000) (hv : NV W W.heap.size D dn dc E m k p) :
    Calls Try.prog 30 #[.pointer (some ⟨K, 0, none⟩), nmV p.id D dn dc p.txt E m k] W (GoneEnd R K w v u g s (overN g p) W) := by
  obtain ⟨Av, cv, rfl, hcv, hrd⟩ := Tg.rdN_ownT h.a pr_lt
  obtain ⟨nv, hnv⟩ : ∃ nv, g.length = nv := ⟨_, rfl⟩
  rw [hnv] at h hb hcv hgl ⊢
  have HNV := Lib.hid hnv
  obtain ⟨⟨x, ys⟩, hoo⟩ : ∃ z, outO (overN g p) = z := ⟨_, rfl⟩
  obtain ⟨bo, hbo⟩ : ∃ b, (overN g p).isSome = b := ⟨_, rfl⟩
  have HOO := Lib.hid hoo; have HBO := Lib.hid hbo
  have hba := two_box W (.cells #[.int .i64 p.id.1, .int .i64 p.id.2, .slice D dn dc, strV p.txt, .slice E m k] 45) (.cells #[.int .i64 0, .int .i64 0, .slice none 0 0, .string ⟨#[]⟩, .slice none 0 0] 45)
  have b0 := (Blk.new W 45 #[.int .i64 p.id.1, .int .i64 p.id.2, .slice D dn dc, strV p.txt, .slice E m k]).alloc (.cells #[.int .i64 0, .int .i64 0, .slice none 0 0, .string ⟨#[]⟩, .slice none 0 0] 45)
  have b1 := Blk.new (W.alloc (.cells #[.int .i64 p.id.1, .int .i64 p.id.2, .slice D dn dc, strV p.txt, .slice E m k] 45)) 45 #[.int .i64 0, .int .i64 0, .slice none 0 0, .string ⟨#[]⟩, .slice none 0 0]
  simp only [World.size_alloc] at b1
  have hs1 : ((W.alloc (.cells #[.int .i64 p.id.1, .int .i64 p.id.2, .slice D dn dc, strV p.txt, .slice E m k] 45)).alloc (.cells #[.int .i64 0, .int .i64 0, .slice none 0 0, .string ⟨#[]⟩, .slice none 0 0] 45)).heap.size = W.heap.size + 2 := by simp
  have HLK : Hid (K < W.heap.size) := Lib.hid hb.lt
  have HRK := Lib.hid hR; have HROW := Lib.hid h; have HBK := Lib.hid hb; have HV := Lib.hid hv; have HRD := Lib.hid hrd
  have HLP := Lib.hid hp; have HLG := Lib.hid hg
  clear hoo hbo hnv hb h hv hcv hR hp hg hrd
  go_enter Try.func30, Try.ntmps30
  go_upto_region 1 with fail
  generalize ((W.alloc (.cells #[.int .i64 p.id.1, .int .i64 p.id.2, .slice D dn dc, strV p.txt, .slice E m k] 45)).alloc (.cells #[.int .i64 0, .int .i64 0, .slice none 0 0, .string ⟨#[]⟩, .slice none 0 0] 45)) = W1 at b0 b1 hba hs1 ⊢
  obtain ⟨z, hz⟩ : ∃ z, W.heap.size = z := ⟨_, rfl⟩
  rw [hz] at b0 b1 hs1 ⊢
  have HZ := Lib.hid hz; have HB0 := Lib.hid b0; have HB1 := Lib.hid b1; have HBA := Lib.hid hba; have HS1 := Lib.hid hs1
  have HK1 := Lib.hid (HBK.out.below hba HBK.out.lt)
  have HR1 : Hid (Rows3 (fun b => R b ∨ b = z ∨ b = z + 1) w W1 (.slice Av nv cv) u g s) := Lib.hid (HROW.out.more (fun b e => e.imp id fun e => by rcases e with e | e <;> omega) hba (fun b e => by rcases e with e | e | e; (have := (HROW.out.rl b e).2; omega); omega; omega))
  have PO : Hid (∀ X, Below W1.heap.size W1 X → Calls Try.prog 25 #[.slice Av nv cv, nmV p.id D dn dc p.txt E m k] X (NOverEnd X x ys bo)) := Lib.hid (fun X hX => OverN Av nv cv g D dn dc E m k p X hgl (by have h1 := HV.out.l; have h2 := HLP.out.2.1; omega) (by have h1 := HV.out.dl; have h2 := HLP.out.2.2; omega) HLP.out.1 (RdN.mv (RdN.mv HRD.out HBA.out) hX) HNV.out (over_all HLG.out) ((HV.out.mv HBA.out).mv hX) x ys bo HOO.out HBO.out)
  have HC : Hid (∀ X, Below W1.heap.size W1 X → X.cell? ⟨K, 0, none⟩ = some (.slice Av nv cv) ∧ X.cell? ⟨z, 0, none⟩ = some (.int .i64 p.id.1) ∧ X.cell? ⟨z, 1, none⟩ = some (.int .i64 p.id.2) ∧ X.cell? ⟨z, 2, none⟩ = some (.slice D dn dc) ∧ X.cell? ⟨z, 3, none⟩ = some (strV p.txt) ∧ X.cell? ⟨z, 4, none⟩ = some (.slice E m k)) := Lib.hid (fun X hX => have h1 := HB0.out.below hX HB0.out.lt; ⟨(HK1.out.below hX HK1.out.lt).cell 0 rfl, h1.cell 0 rfl, h1.cell 1 rfl, h1.cell 2 rfl, h1.cell 3 rfl, h1.cell 4 rfl⟩)
  have HF : Hid (∀ (X : World) (F : Nat) (v0 v1 v2 v3 v4 : Value), Below W1.heap.size W1 X → W1.heap.size ≤ F → (((((X.setCell ⟨F, 0, none⟩ v0).setCell ⟨F, 1, none⟩ v1).setCell ⟨F, 2, none⟩ v2).setCell ⟨F, 3, none⟩ v3).setCell ⟨F, 4, none⟩ v4).cell? ⟨K, 0, none⟩ = some (.slice Av nv cv) ∧ (((((X.setCell ⟨F, 0, none⟩ v0).setCell ⟨F, 1, none⟩ v1).setCell ⟨F, 2, none⟩ v2).setCell ⟨F, 3, none⟩ v3).setCell ⟨F, 4, none⟩ v4).cell? ⟨z, 0, none⟩ = some (.int .i64 p.id.1) ∧ (((((X.setCell ⟨F, 0, none⟩ v0).setCell ⟨F, 1, none⟩ v1).setCell ⟨F, 2, none⟩ v2).setCell ⟨F, 3, none⟩ v3).setCell ⟨F, 4, none⟩ v4).cell? ⟨z, 1, none⟩ = some (.int .i64 p.id.2) ∧ (((((X.setCell ⟨F, 0, none⟩ v0).setCell ⟨F, 1, none⟩ v1).setCell ⟨F, 2, none⟩ v2).setCell ⟨F, 3, none⟩ v3).setCell ⟨F, 4, none⟩ v4).cell? ⟨z, 2, none⟩ = some (.slice D dn dc) ∧ (((((X.setCell ⟨F, 0, none⟩ v0).setCell ⟨F, 1, none⟩ v1).setCell ⟨F, 2, none⟩ v2).setCell ⟨F, 3, none⟩ v3).setCell ⟨F, 4, none⟩ v4).cell? ⟨z, 3, none⟩ = some (strV p.txt) ∧ (((((X.setCell ⟨F, 0, none⟩ v0).setCell ⟨F, 1, none⟩ v1).setCell ⟨F, 2, none⟩ v2).setCell ⟨F, 3, none⟩ v3).setCell ⟨F, 4, none⟩ v4).cell? ⟨z, 4, none⟩ = some (.slice E m k)) := Lib.hid (fun X F v0 v1 v2 v3 v4 hX hF => HC.out _ (below_set5 hX hF v0 v1 v2 v3 v4))
  have HKB := Lib.hid (show Below W1.heap.size W1 W1.drew from below_drewN (Below.refl _ _) 1)
  have HKD := Lib.hid (HC.out W1.drew HKB.out)
  have HDZ := Lib.hid (first_d0 W1 #[.int .i64 0, .int .i64 0, .slice none 0 0, .string ⟨#[]⟩, .slice none 0 0])
  have HLE := Lib.hid (Nat.le_refl W1.heap.size)
  have HS0 := Lib.hid (HC.out W1 (Below.refl _ _))
  clear hz b0 b1 hba hs1
  go_cut [6, 7, 8] from 9 (fun s6 s7 s8 wx => ∃ F v', s6 = .pointer (some ⟨F, 0, none⟩) ∧ s7 = v' ∧ s8 = .bool bo ∧ OverLay W1 x ys v' F wx)
  case first =>
    obtain ⟨k0, z0, z1, z2, z3, z4⟩ := HS0.out
    have hlk := HK1.out.lt; have hlz := HB0.out.lt
    go_region_held3 (fun X => X.cell? ⟨K, 0, none⟩ = some (.slice Av nv cv) ∧ X.cell? ⟨z, 0, none⟩ = some (.int .i64 p.id.1) ∧ X.cell? ⟨z, 1, none⟩ = some (.int .i64 p.id.2) ∧ X.cell? ⟨z, 2, none⟩ = some (.slice D dn dc) ∧ X.cell? ⟨z, 3, none⟩ = some (strV p.txt) ∧ X.cell? ⟨z, 4, none⟩ = some (.slice E m k))
      (first | (with_reducible exact HKD.out) | (with_reducible exact HC.out _ HDZ.out.1) | (with_reducible exact hS1) | (with_reducible exact HC.out _ HE1.out) | (with_reducible exact HC.out _ HE2.out) | (with_reducible exact HF.out _ _ _ _ _ _ _ HU.out HLE.out))
      (first
        | (go_at_call 25; (with_reducible refine (PO.out W1.drew HKB.out).mono ?_); rintro e u1 ⟨D1, d1, e1, E1, m1, k1, v1, rfl, hn, ho, hb⟩; have hbu := below_mv HKB.out hb; have hS1 := HC.out u1 hbu; have HU := Lib.hid hbu; have HE1 := Lib.hid (hbu.alloc hbu.size (.cells #[.int .i64 0, .int .i64 0, .slice none 0 0, .string ⟨#[]⟩, .slice none 0 0] 45)); have HE2 := Lib.hid (hbu.alloc hbu.size (.cells #[.int .i64 x.id.1, .int .i64 x.id.2, .slice D1 d1 e1, strV x.txt, .slice E1 m1 k1] 45)); have HN := Lib.hid (show NG u1 (fun b => Since W1 u1 b ∧ some b ≠ v1.ownBlock) D1 d1 e1 E1 m1 k1 x from hn); have HO := Lib.hid (show Tg.OwnT u1 (fun b => Since W1 u1 b ∧ some b ≠ v1.ownBlock) W1.heap.size v1 ys from ho); clear hn ho hb hbu)
        | (go_at_call 25; (with_reducible refine (PO.out (W1.alloc (.cells #[.int .i64 0, .int .i64 0, .slice none 0 0, .string ⟨#[]⟩, .slice none 0 0] 45)).drew HDZ.out.1).mono ?_); rintro e u1 ⟨D1, d1, e1, E1, m1, k1, v1, rfl, hn, ho, hb⟩; have hbu := below_mv HDZ.out.1 hb; have hS1 := HC.out u1 hbu; have HU := Lib.hid hbu; have tf2 := HDZ.out.2.below hb HDZ.out.2.lt; have y0 := tf2.cell 0 rfl; have y1 := tf2.cell 1 rfl; have y2 := tf2.cell 2 rfl; have y3 := tf2.cell 3 rfl; have y4 := tf2.cell 4 rfl; have fz0 := tf2.frozen 0; have fz1 := tf2.frozen 1; have fz2 := tf2.frozen 2; have fz3 := tf2.frozen 3; have fz4 := tf2.frozen 4; have ylt := tf2.lt; have HN := Lib.hid hn; have HO := Lib.hid ho; have HB := Lib.hid hb; clear hn ho hb hbu))
    all_goals (try go_wp2_with fail)
    all_goals go_meet
    (with_reducible exact ⟨_, _, rfl, rfl, rfl, over_lay_a HN.out HO.out HU.out⟩)
    (with_reducible exact ⟨_, _, rfl, rfl, rfl, over_lay_b HN.out HO.out HB.out HDZ.out.1 HLE.out HDZ.out.2⟩)
  case rest =>
    obtain ⟨F, v', rfl, rfl, rfl, D1, d1, e1, E1, m1, k1, hbf, hng, hot, hF, hvF, hb⟩ := hcut
    clear HC HF HKD HKB HDZ HLE HS0 PO
    have HBF := Lib.hid hbf; have HNG := Lib.hid hng; have HOT := Lib.hid hot; have HFW := Lib.hid hF; have HBW := Lib.hid hb
    have HK2 := Lib.hid (HK1.out.below hb HK1.out.lt); have HY := Lib.hid (HB1.out.below hb HB1.out.lt)
    have hy := HY.out
    have y0 := hy.cell 0 rfl; have y1 := hy.cell 1 rfl; have y2 := hy.cell 2 rfl; have y3 := hy.cell 3 rfl; have y4 := hy.cell 4 rfl; have f0 := hy.frozen 0; have f1 := hy.frozen 1; have f2 := hy.frozen 2; have f3 := hy.frozen 3; have f4 := hy.frozen 4; have hyl := hy.lt; have hyl0 := Nat.lt_of_succ_lt hyl
    have hzw := HZ.out; have hs1 := HS1.out
    cases bo with
    | false =>
      clear hbf hng hot hF hvF hb hy
      have HE : Hid (overN g p = none) := Lib.hid (by have h := HBO.out; cases ho : overN g p with | none => rfl | some q => rw [ho] at h; cases h)
      go_wp2_with fail
      have b4 := Tg.blk5 HY.out (.int .i64 0) (.int .i64 0) (.slice none 0 0) (.string ⟨#[]⟩) (.slice none 0 0)
      have hr4 := ((HR1.out.below HBW.out).set5 (b := z + 1) (.inr (.inr rfl)) (.int .i64 0) (.int .i64 0) (.slice none 0 0) (.string ⟨#[]⟩) (.slice none 0 0)).less (fun b hb => .inl hb)
      have hk4 := blk_set5 HK2.out (g := z + 1) (by have := HLK.out; omega) (.int .i64 0) (.int .i64 0) (.slice none 0 0) (.string ⟨#[]⟩) (.slice none 0 0)
      have hm4 := (mine_below (below_mv HBA.out HBW.out) : Mine (fun b => b = K) W wc).set5 (b := z + 1) (.inr (by omega)) (.int .i64 0) (.int .i64 0) (.slice none 0 0) (.string ⟨#[]⟩) (.slice none 0 0)
      generalize (World.setCell (World.setCell (World.setCell (World.setCell (World.setCell wc ⟨z + 1, 0, none⟩ (.int .i64 0)) ⟨z + 1, 1, none⟩ (.int .i64 0)) ⟨z + 1, 2, none⟩ (.slice none 0 0)) ⟨z + 1, 3, none⟩ (.string ⟨#[]⟩)) ⟨z + 1, 4, none⟩ (.slice none 0 0)) = w9 at *
      have t0 := b4.cell 0 rfl; have t1 := b4.cell 1 rfl; have t2 := b4.cell 2 rfl; have t3 := b4.cell 3 rfl; have t4 := b4.cell 4 rfl
      refine bodyPost_ret (v := .tuple #[.agg #[.int .i64 0, .int .i64 0, .slice none 0 0, .string ⟨#[]⟩, .slice none 0 0], .bool false]) (by simp [results, Try.results30, go_sem, t0, t1, t2, t3, t4]) rfl ?_
      rw [HE.out]
      exact ⟨none, 0, 0, none, 0, 0, _, rfl, ng_no _ _, hr4, hk4, hm4⟩
    | true =>
      have HE : Hid (overN g p = some (x, ys)) := Lib.hid (by have h := HBO.out; have h2 := HOO.out; cases ho : overN g p with | none => rw [ho] at h; cases h | some q => rw [ho] at h2; exact congrArg some h2)
      obtain ⟨A2, c2, rfl, hc2⟩ := Tg.ownT_slice hot
      obtain ⟨n2, hn2⟩ : ∃ n, ys.length = n := ⟨_, rfl⟩
      rw [hn2] at HNG HOT hvF ⊢
      have HVF := Lib.hid hvF
      clear hng hot hc2 hn2 hvF
      have kk0 := HK2.out.cell 0 rfl; have kf := HK2.out.frozen 0; have hkl := HK2.out.lt
      have q0 := hbf.cell 0 rfl; have q1 := hbf.cell 1 rfl; have q2 := hbf.cell 2 rfl; have q3 := hbf.cell 3 rfl; have q4 := hbf.cell 4 rfl; have hfl := hbf.lt
      have HKZ : Hid (K < z) := Lib.hid (by have := HLK.out; omega)
      have hne1 : ¬ K = z + 1 := by have := HKZ.out; omega
      have hne2 : ¬ F = z + 1 := by omega
      have hne3 : ¬ F = K := by have := HKZ.out; omega
      clear hbf hy
      go_wp2_with fail
      have hup : ∀ b, ((Since W1 wc b ∧ some b ≠ (Value.slice A2 n2 c2).ownBlock) ∧ b ≠ F) → b ≠ K ∧ b ≠ z + 1 := fun b hb => by have h1 := hb.1.1.1; have := HKZ.out; omega
      have hn3 := HNG.out.to_ ((alike_set wc K 0 (.slice A2 n2 c2)).mono fun b hb => (hup b hb).1)
      have hr3 := (HR1.out.over (HOT.out.mono fun b hb => hb.1) HBW.out).set (b := K) (.inl HRK.out) 0 (.slice A2 n2 c2)
      have hk3 := HK2.out.set 0 (.slice A2 n2 c2)
      have hy3 := HY.out.set_ne (b' := K) (by omega) 0 (.slice A2 n2 c2)
      have hm3 := (mine_below (below_mv HBA.out HBW.out) : Mine (fun b => b = K) W wc).setn (b := K) (.inl rfl) 0 (.slice A2 n2 c2)
      have hs3 : (wc.setCell ⟨K, 0, none⟩ (.slice A2 n2 c2)).heap.size = wc.heap.size := by simp
      generalize (wc.setCell ⟨K, 0, none⟩ (.slice A2 n2 c2)) = w3 at *
      have b4 := Tg.blk5 hy3 (.int .i64 x.id.1) (.int .i64 x.id.2) (.slice D1 d1 e1) (strV x.txt) (.slice E1 m1 k1)
      have hn4 := hn3.to_ ((alike_set5 w3 (z + 1) (.int .i64 x.id.1) (.int .i64 x.id.2) (.slice D1 d1 e1) (strV x.txt) (.slice E1 m1 k1)).mono fun b hb => (hup b hb).2)
      have hr4 := hr3.set5 (b := z + 1) (.inr (.inr rfl)) (.int .i64 x.id.1) (.int .i64 x.id.2) (.slice D1 d1 e1) (strV x.txt) (.slice E1 m1 k1)
      have hk4 := blk_set5 hk3 (g := z + 1) (by omega) (.int .i64 x.id.1) (.int .i64 x.id.2) (.slice D1 d1 e1) (strV x.txt) (.slice E1 m1 k1)
      have hm4 := hm3.set5 (b := z + 1) (.inr (by omega)) (.int .i64 x.id.1) (.int .i64 x.id.2) (.slice D1 d1 e1) (strV x.txt) (.slice E1 m1 k1)
      have hs4 : (World.setCell (World.setCell (World.setCell (World.setCell (World.setCell w3 ⟨z + 1, 0, none⟩ (.int .i64 x.id.1)) ⟨z + 1, 1, none⟩ (.int .i64 x.id.2)) ⟨z + 1, 2, none⟩ (.slice D1 d1 e1)) ⟨z + 1, 3, none⟩ (strV x.txt)) ⟨z + 1, 4, none⟩ (.slice E1 m1 k1)).heap.size = w3.heap.size := by simp
      generalize (World.setCell (World.setCell (World.setCell (World.setCell (World.setCell w3 ⟨z + 1, 0, none⟩ (.int .i64 x.id.1)) ⟨z + 1, 1, none⟩ (.int .i64 x.id.2)) ⟨z + 1, 2, none⟩ (.slice D1 d1 e1)) ⟨z + 1, 3, none⟩ (strV x.txt)) ⟨z + 1, 4, none⟩ (.slice E1 m1 k1)) = w9 at *
      have t0 := b4.cell 0 rfl; have t1 := b4.cell 1 rfl; have t2 := b4.cell 2 rfl; have t3 := b4.cell 3 rfl; have t4 := b4.cell 4 rfl
      refine bodyPost_ret (v := .tuple #[.agg #[.int .i64 x.id.1, .int .i64 x.id.2, .slice D1 d1 e1, strV x.txt, .slice E1 m1 k1], .bool true]) (by simp [results, Try.results30, go_sem, t0, t1, t2, t3, t4]) rfl ?_
      rw [HE.out]
      refine ⟨D1, d1, e1, E1, m1, k1, _, rfl, hn4.mono fun b hb => ?_, hr4.less (fun b hb => .inl hb), hk4, hm4⟩
      have h1 := hb.1.1.1; have h2 := hb.1.1.2
      refine ⟨by omega, fun e => ?_, hb.1.2, fun e => ?_⟩
      · have := (HROW.out.rl b e).2; omega
      · have := Tg.ownT_lt HROW.out.b b e.symm; omega

end Bb
end Go.Proofs.Ytdnkinajbebkoaa
