/-
  What package patch's own, All and Apply return (walks).
-/
import Derived.Test.YtbiiabfhngdeiaaPnLeaf
import Derived.Test.YtbiiabfhngdeiaaFlLeaf
import Derived.Test.YtbiiabfhngdeiaaGF
import Derived.Test.YtbiiabfhngdeiaaFlHi
import Derived.Test.YtbiiabfhngdeiaaFlRef2
import Derived.Deep.RegionWith
set_option maxRecDepth 100000
namespace Go.Proofs.Ytbiiabfhngdeiaa
open Go.RowKit
set_option linter.unusedVariables false
set_option linter.unusedSimpArgs false
namespace Pn
open Tx Df Sq Hk Tr Pr Fl

/-! Plain. -/
theorem allN_split {l : List Nm} {k : Nat} {x : Nm} (hx : l[k]? = some x) : allN l = allN (l.take k) ++ (x.l ++ allN (l.drop (k + 1))) := by
  have h1 : l = l.take k ++ x :: l.drop (k + 1) := by rw [← drop_at hx, List.take_append_drop]
  rw [← allN_cons, ← allN_app, ← h1]
theorem allN_pre {l : List Nm} {k j N : Nat} {x : Nm} (hx : l[k]? = some x) (hN : (allN l).length ≤ N) : (allN (l.take k) ++ x.l.take j).length ≤ N := by
  rw [allN_split hx] at hN
  simp only [List.length_append, List.length_take] at hN ⊢
  omega
theorem allN_len {l : List Nm} {k : Nat} {x : Nm} (hx : l[k]? = some x) : x.l.length ≤ (allN l).length := by
  rw [allN_split hx]
  simp only [List.length_append]
  omega
theorem allN_mem {l : List Nm} {k : Nat} {x : Nm} {q : Ch} (hx : l[k]? = some x) (hq : q ∈ x.l) : q ∈ allN l := by
  rw [allN_split hx]
  exact List.mem_append_right _ (List.mem_append_left _ hq)
theorem allN_next {l : List Nm} {k : Nat} {x : Nm} (hx : l[k]? = some x) : allN (l.take (k + 1)) = allN (l.take k) ++ x.l := by
  rw [take_at hx, allN_app]
  unfold allN
  simp
theorem allN_take {l : List Nm} {N : Nat} (k : Nat) (h : (allN l).length ≤ N ∧ Lt (allN l)) : ((allN (l.take k)).length ≤ N ∧ Lt (allN (l.take k))) ∧ ((allN (l.drop k)).length ≤ N ∧ Lt (allN (l.drop k))) := by
  have e : allN l = allN (l.take k) ++ allN (l.drop k) := by rw [← allN_app, List.take_append_drop]
  rw [e, List.length_append] at h
  refine ⟨⟨by omega, fun x hx => h.2 x (List.mem_append_left _ hx)⟩, by omega, fun x hx => h.2 x (List.mem_append_right _ hx)⟩

/-- Blocks made behind w that are not the row. -/
def NewIn (w W : World) (row : Option Nat) : Nat → Prop := fun b => w.heap.size ≤ b ∧ b < W.heap.size ∧ some b ≠ row
theorem newIn_up {w W W' : World} {row : Option Nat} (hs : W.heap.size ≤ W'.heap.size) : ∀ b, NewIn w W row b → NewIn w W' row b := fun b h => ⟨h.1, Nat.lt_of_lt_of_le h.2.1 hs, h.2.2⟩
/-- Changes in a row of one's own, their lines in memory made behind w. -/
abbrev OwnF (w W : World) (v : Value) (l : List Ch) : Prop := OwnS W (NewIn w W v.ownBlock) w.heap.size v l
section
variable {w W W' : World} {v : Value} {l u : List Ch}
theorem ownF_nil (w W : World) : OwnF w W (.slice none 0 0) [] := ⟨[], World.ownsRow_nil _ _ _ _, PCells.nil _ _ _⟩
theorem OwnF.below (h : OwnF w W v l) (hb : Below W.heap.size W W') : OwnF w W' v l := by
  obtain ⟨xs, h1, h2⟩ := h
  exact ⟨xs, own_gr h1 (below_gr_row hb), (h2.to (fun b _ hl => hb.block b hl)).mono (newIn_up hb.size)⟩
theorem run_ownF {ty : TypeId} {m c : Nat} {A : Option Addr} {ys : List Value} (h : OwnF w W v l) (hu : PCells W (NewIn w W v.ownBlock) u ys) (hyl : ys.length = u.length * 6) (hsrc : ∃ a, A = some a ∧ ∀ (j : Nat) x, ys[j]? = some x → W.cell? (a.add j) = some x)
    (hm : u.length = m) (h0 : 0 < m) (hn : l.length + m ≤ 100000) (hbase : w.heap.size ≤ W.heap.size) :
    ∃ v' W', (Builtin.append_ #[26, 26] ty #[v, .slice A m c]).run Try.prog W = .ok v' W' ∧ OwnF w W' v' (l ++ u) ∧ W.grownBy W' v.ownBlock := by
  obtain ⟨i0, hi0, hz0, hz1, hz2⟩ := info_parts info_prim
  obtain ⟨xs, hrow, hF⟩ := h
  have h1 := one6 hu hyl
  obtain ⟨a, rfl, hcell⟩ := hsrc
  obtain ⟨g, cap, W', hr, r1, r2, r3, r4⟩ := run_append_lies (P := Try.prog) (w := W) 26 ty w.heap.size 51 i0 _ 6 96 Try.underlying26 hi0 hz0 hz1 hz2 rfl (by decide) v l.length xs hrow a m c ys (by rw [hyl, hm]) hcell h1 (by omega) (by unfold maxLen; omega) (by omega) hbase W.heap.size rfl
  refine ⟨_, W', hr, ⟨xs ++ ys, by rw [List.length_append, hm]; exact r1, ?_⟩, r2⟩
  have hJ := (hF.append hrow.1 hu)
  have al : Fl.Alike (NewIn w W v.ownBlock) W W' := (alike_gr r2).mono fun b hb => hb.2.2
  refine (hJ.to al).mono fun b hb => ⟨hb.1, Nat.lt_of_lt_of_le hb.2.1 r2.size, ?_⟩
  rcases r3 with r3 | r3
  · rw [r3] at hb; exact hb.2.2
  · intro e
    injection e with e
    have e' : b = g := e
    have := hb.2.1
    omega
theorem wpList_ownF {ops : Array Oper} {rest : List Oper} {o : Oper} {a : Act} {Q : Exit → Act → World → Prop} (hgd : o.guard = none) (s x : Operand)
    (ho : o.op = .call { callee := .builtin .append, args := #[s, x], argTypes := #[26, 26] })
    (w : World) (m c : Nat) (v : Value) (A : Option Addr) (l u : List Ch) (ys : List Value) (hs : a.eval s = v) (hx : a.eval x = .slice A m c) (h : OwnF w W v l) (hu : PCells W (NewIn w W v.ownBlock) u ys) (hyl : ys.length = u.length * 6) (hsrc : ∃ a, A = some a ∧ ∀ (j : Nat) x, ys[j]? = some x → W.cell? (a.add j) = some x)
    (hm : u.length = m) (h0 : 0 < m) (hn : l.length + m ≤ 100000) (hbase : w.heap.size ≤ W.heap.size)
    (hK : ∀ v' W', OwnF w W' v' (l ++ u) → W.grownBy W' v.ownBlock → wpList Try.prog ops Q rest (a.put o.dst v') W') : wpList Try.prog ops Q (o :: rest) a W := by
  refine wpList_plain hgd fun K hK' => ?_
  obtain ⟨v', W', hrun, h2, h3⟩ := run_ownF (ty := o.type) (c := c) h hu hyl hsrc hm h0 hn hbase
  unfold Oper.wp execOp
  simp only [ho, resolve, invoke, builtin, Sem.run_bind, Sem.run_pure, Result.andThen_ok, List.map_toArray, List.map_cons, List.map_nil, hs, hx, hrun]
  exact hK' _ _ (hK v' W' h2 h3)
end

theorem ownC (A : Option Addr) (n c B : Nat) (ls : List (List UInt8)) (w : World) (hn : ls.length = n) (hle : n ≤ 100000) (hB : B ≤ w.heap.size) (hR : RdS w B A ls) :
    Calls Try.prog 43 #[.slice A n c] w (CopyLEnd w n ls) := by
  obtain ⟨j0, hj, hy0, hy1, hy2⟩ := info_parts info_str
  have HR := Lib.hid hR; have HN := Lib.hid hn
  clear hR hn
  go_enter Try.func43, Try.ntmps43
  go_wp2_with (at_builtin; refine wpList_nil' rfl (.const (.slice none 0 0)) (.tmp 3) 47 rfl 9 j0 (.string ⟨#[]⟩) 16 Try.underlying47 hj hy0 hy1 hy2 rfl rfl B A n c (ls.map strV) rfl (by rw [List.length_map]; exact HN.out) HR.out (strs_one _) (by unfold maxLen; omega) (by omega) ?_; intro D1 d1 w1 hA hg; have HA := Lib.hid hA; have HG := Lib.hid hg; clear hA hg)
  go_ret
  obtain ⟨A', c', e, hc, hr⟩ := rd_of_own HA.out
  injection e with e1 e2 e3
  subst e1 e3
  exact ⟨D1, d1, rfl, hc, hr, hi_own HA.out, HG.out⟩

set_option maxRecDepth 100000 in
set_option maxHeartbeats 8000000 in
theorem AllN (A : Option Addr) (n c : Nat) (l : List Nm) (w : World) (hn : l.length = n) (hle : n ≤ 100000) (hT : (allN l).length ≤ 1000) (hl : Lt (allN l)) (hR : RdN w w.heap.size A l) :
    Calls Try.prog 27 #[.slice A n c] w (LPHi w (allN l)) := by
  have HR := Lib.hid hR; have HN := Lib.hid hn; have HL := Lib.hid hl; have HT := Lib.hid hT
  clear hR hn hl hT
  go_enter Try.func27, Try.ntmps27
  go_wp2
  go_loopw [3, 10] (fun v3 i wr => ∃ (k : Nat) (A3 : Option Addr) (m3 f3 : Nat), k ≤ n ∧ i = .int .i64 (k : Int) ∧ v3 = .slice A3 m3 f3 ∧ OwnF w wr (.slice A3 m3 f3) (allN (l.take k)) ∧ Below w.heap.size w wr) (fun _ i _ => n - (intOf i).toNat)
  case atStart => exact ⟨0, none, 0, 0, Nat.zero_le _, rfl, rfl, ownF_nil _ _, Below.refl _ _⟩
  case round =>
    obtain ⟨k, A3, m3, f3, hk, rfl, rfl, hO, hbw⟩ := hrel
    have HBW := Lib.hid hbw; have HO := Lib.hid hO; clear hbw hO
    by_cases hlt : k < n
    · have hki : (k : Int) < (n : Int) := by omega
      obtain ⟨a, x, D, i, j, E, m, d, rfl, hS, hx, c0, c1, c2, c3, c4, c5⟩ := (HR.out.elem (k := k) (by rw [HN.out]; exact hlt))
      have hsb : (a.add (k * 5)).block < w.heap.size := by rw [add_block]; exact hS
      replace c0 := cellB c0 HBW.out hsb; replace c1 := cellB c1 HBW.out hsb; replace c2 := cellB c2 HBW.out hsb; replace c3 := cellB c3 HBW.out hsb; replace c4 := cellB c4 HBW.out hsb
      have HX := Lib.hid hx
      have HBA := Lib.hid (show Below wr.heap.size wr (wr.alloc (.cells #[.int .i64 x.id.1, .int .i64 x.id.2, .slice D i j, strV x.txt, .slice E m d] 28)) from (Below.refl _ _).alloc (Nat.le_refl _) _)
      have HXL := Lib.hid c5.l
      have HXR := Lib.hid c5.r
      have hm1 : m ≤ 1000 := by have h1 := allN_len HX.out; have h2 := HT.out; have h3 := HXL.out; omega
      have HO1 := Lib.hid (HO.out.below HBA.out)
      have HBW1 := Lib.hid (below_mv HBW.out HBA.out)
      clear hx c5 hS HO hsb
      go_wp2_with fail
      clear c0 c1 c2 c3 c4
      generalize (wr.alloc (.cells #[.int .i64 x.id.1, .int .i64 x.id.2, .slice D i j, strV x.txt, .slice E m d] 28)) = w1 at HBA HO1 HBW1 ⊢
      clear HBA HBW
      go_loopw [3, 17] (fun v3 i wr => ∃ (k2 : Nat) (A3 : Option Addr) (m3 f3 : Nat), k2 ≤ m ∧ i = .int .i64 (k2 : Int) ∧ v3 = .slice A3 m3 f3 ∧ OwnF w wr (.slice A3 m3 f3) (allN (l.take k) ++ x.l.take k2) ∧ Below w.heap.size w wr) (fun _ i _ => m - (intOf i).toNat)
      case atStart => exact ⟨0, A3, m3, f3, Nat.zero_le _, rfl, rfl, by rw [List.take_zero, List.append_nil]; exact HO1.out, HBW1.out⟩
      case round =>
        clear HO1 HBW1
        obtain ⟨k2, A4, m4, e4, hk2, rfl, rfl, hO, hbw⟩ := hrel
        have HBW2 := Lib.hid hbw; have HO := Lib.hid hO; clear hbw hO
        by_cases hlt2 : k2 < m
        · have hki2 : (k2 : Int) < (m : Int) := by omega
          obtain ⟨ad, q, B, n1, d1, G, m2, d2, rfl, hS, hq, c0, c1, c2, c3, c4, c5, hp⟩ := (HXR.out.elem (k := k2) (by rw [HXL.out]; exact hlt2))
          have hsb : (ad.add (k2 * 6)).block < w.heap.size := by rw [add_block]; exact hS
          replace c0 := cellB c0 HBW2.out hsb; replace c1 := cellB c1 HBW2.out hsb; replace c2 := cellB c2 HBW2.out hsb; replace c3 := cellB c3 HBW2.out hsb; replace c4 := cellB c4 HBW2.out hsb; replace c5 := cellB c5 HBW2.out hsb
          have HQ := Lib.hid hq
          have HLX := Lib.hid (lt_len hp (HL.out q (allN_mem HX.out (List.mem_of_getElem? hq))))
          have HBX := Lib.hid (Blk.new wr 51 #[.int .i64 q.k, strV q.nm, strV q.to, .int .i64 q.h.pos, .slice B n1 d1, .slice G m2 d2])
          have hba : Below wr.heap.size wr (wr.alloc (.cells #[.int .i64 q.k, strV q.nm, strV q.to, .int .i64 q.h.pos, .slice B n1 d1, .slice G m2 d2] 51)) := (Below.refl _ _).alloc (Nat.le_refl _) _
          have HBW3 := Lib.hid (below_mv HBW2.out hba)
          have HPW := Lib.hid (hp.pv.below HBW3.out); have HBA := Lib.hid hba
          have HLT := Lib.hid (ownS_lt HO.out)
          have HSZ := Lib.hid (show (wr.alloc (.cells #[.int .i64 q.k, strV q.nm, strV q.to, .int .i64 q.h.pos, .slice B n1 d1, .slice G m2 d2] 51)).heap.size = wr.heap.size + 1 by simp)
          clear hq hp hS hba hsb
          go_upto_region 8 with fail
          clear c0 c1 c2 c3 c4 c5
          generalize (wr.alloc (.cells #[.int .i64 q.k, strV q.nm, strV q.to, .int .i64 q.h.pos, .slice B n1 d1, .slice G m2 d2] 51)) = W at HBX HPW HBW3 HSZ HBA ⊢
          obtain ⟨z, hz⟩ : ∃ z, wr.heap.size = z := ⟨_, rfl⟩
          have HZ := Lib.hid hz
          rw [hz] at HBX HSZ HLT ⊢
          clear hz
          have hlx := HLX.out
          have PX : Hid (∀ X, Below W.heap.size W X → Calls Try.prog 43 #[.slice B n1 d1] X (fun e u => ∃ P p, e = .returned (.slice P n1 p) ∧ n1 ≤ p ∧ RdS u u.heap.size P q.h.old ∧ Hi X.heap.size P ∧ X.grownBy u none)) := Lib.hid (fun X hb => ownC B n1 d1 w.heap.size q.h.old X HPW.out.h.l (by omega) (Nat.le_trans HBW3.out.size hb.size) (Rd.below HPW.out.h.r (hb.mono HBW3.out.size)))
          have PY : Hid (∀ X, Below W.heap.size W X → Calls Try.prog 43 #[.slice G m2 d2] X (fun e u => ∃ P p, e = .returned (.slice P m2 p) ∧ m2 ≤ p ∧ RdS u u.heap.size P q.h.new ∧ Hi X.heap.size P ∧ X.grownBy u none)) := Lib.hid (fun X hb => ownC G m2 d2 w.heap.size q.h.new X HPW.out.h.l' (by omega) (Nat.le_trans HBW3.out.size hb.size) (Rd.below HPW.out.h.r' (hb.mono HBW3.out.size)))
          have HD := Lib.hid (show Below W.heap.size W W.drew from below_drewN (Below.refl W.heap.size W) 1)
          obtain ⟨z4, z5⟩ : W.cell? ⟨z, 4, none⟩ = some (.slice B n1 d1) ∧ W.cell? ⟨z, 5, none⟩ = some (.slice G m2 d2) := ⟨HBX.out.cell 4 rfl, HBX.out.cell 5 rfl⟩
          have hzl := HBX.out.lt
          go_region_with (first
            | (go_at_call 43; (with_reducible refine (PX.out W.drew HD.out).mono ?_); rintro e w5 ⟨P5, p5, rfl, hk5, hr5, hh5, hg5⟩; have hb5 := HD.out.trans (below_gr hg5); have B5 := HBX.out.below hb5 HBX.out.lt; have z4' := B5.cell 4 rfl; have z5' := B5.cell 5 rfl; have hzl5 := B5.lt; have HU5 := Lib.hid hb5; have HR5 := Lib.hid hr5; have HH5 := Lib.hid hh5; have HK5 := Lib.hid hk5; clear hg5 hb5 hr5 hh5 hk5 B5)
            | (go_at_call 43; (with_reducible refine (PY.out w5 HU5.out).mono ?_); rintro e w6 ⟨P6, p6, rfl, hk6, hr6, hh6, hg6⟩; have hb6 := below_gr hg6; have hu6 := HU5.out.trans (hb6.mono HU5.out.size); have B6 := HBX.out.below hu6 HBX.out.lt; have y4 := B6.cell 4 rfl; have y5 := B6.cell 5 rfl; have f4 := B6.frozen 4; have f5 := B6.frozen 5; have hzl6 := B6.lt; have HU6 := Lib.hid hu6; have HB6 := Lib.hid hb6; have HR6 := Lib.hid hr6; have HH6 := Lib.hid hh6; have HK6 := Lib.hid hk6; have HB6X := Lib.hid B6; clear hg6 hb6 hu6 hr6 hh6 hk6 B6))
          all_goals
            have b7 : Blk ((w6.setCell ⟨z, 4, none⟩ (.slice P5 n1 p5)).setCell ⟨z, 5, none⟩ (.slice P6 m2 p6)) z 51 #[.int .i64 q.k, strV q.nm, strV q.to, .int .i64 q.h.pos, .slice P5 n1 p5, .slice P6 m2 p6] := (HB6X.out.set 4 _).set 5 _
            have hb7 : Below wr.heap.size wr ((w6.setCell ⟨z, 4, none⟩ (.slice P5 n1 p5)).setCell ⟨z, 5, none⟩ (.slice P6 m2 p6)) := ((HBA.out.trans (HU6.out.mono HBA.out.size)).setCell (p := ⟨z, 4, none⟩) (by rw [HZ.out]; exact Nat.le_refl _) _).setCell (p := ⟨z, 5, none⟩) (by rw [HZ.out]; exact Nat.le_refl _) _
            have al : Fl.Alike (· ≠ z) w6 ((w6.setCell ⟨z, 4, none⟩ (.slice P5 n1 p5)).setCell ⟨z, 5, none⟩ (.slice P6 m2 p6)) := (alike_set w6 z 4 _).trans_ (alike_set _ z 5 _) (by simp)
            have hs5 : z + 1 ≤ w5.heap.size := by have := HSZ.out; have := HU5.out.size; omega
            have hs6 := HB6.out.size
            have r5 : RdG ((w6.setCell ⟨z, 4, none⟩ (.slice P5 n1 p5)).setCell ⟨z, 5, none⟩ (.slice P6 m2 p6)) (fun b => z + 1 ≤ b ∧ b < w6.heap.size) P5 (q.h.old.map strV) := ((rdG_hi (Rd.up (Rd.below HR5.out HB6.out) hs6) HH5.out).mono fun b hb => (by have h1 : W.heap.size ≤ b := hb.1; rw [HSZ.out] at h1; exact ⟨h1, hb.2⟩ : z + 1 ≤ b ∧ b < w6.heap.size)).to (al.mono fun b hb => by omega)
            have r6 : RdG ((w6.setCell ⟨z, 4, none⟩ (.slice P5 n1 p5)).setCell ⟨z, 5, none⟩ (.slice P6 m2 p6)) (fun b => z + 1 ≤ b ∧ b < w6.heap.size) P6 (q.h.new.map strV) := ((rdG_hi HR6.out HH6.out).mono fun b hb => (by have h1 : w5.heap.size ≤ b := hb.1; exact ⟨by omega, hb.2⟩ : z + 1 ≤ b ∧ b < w6.heap.size)).to (al.mono fun b hb => by omega)
            have hsx : ((w6.setCell ⟨z, 4, none⟩ (.slice P5 n1 p5)).setCell ⟨z, 5, none⟩ (.slice P6 m2 p6)).heap.size = w6.heap.size := by simp
            have R5 := Lib.hid r5; have R6 := Lib.hid r6; have HB7 := Lib.hid hb7; have HSX := Lib.hid hsx; have B7 := Lib.hid b7; have HSL := Lib.hid (Nat.le_trans hs5 hs6)
            clear b7 hb7 al hs5 hs6 r5 r6 hsx z4 z5 z4' z5' y4 y5 f4 f5 hzl hzl5 hzl6 PX PY HD HU5 HR5 HH5 HU6 HB6 HR6 HH6 HB6X HBA HBX HSZ
            generalize ((w6.setCell ⟨z, 4, none⟩ (.slice P5 n1 p5)).setCell ⟨z, 5, none⟩ (.slice P6 m2 p6)) = w7 at B7 HB7 R5 R6 HSX ⊢
            have x0 := B7.out.cell 0 rfl; have x1 := B7.out.cell 1 rfl; have x2 := B7.out.cell 2 rfl; have x3 := B7.out.cell 3 rfl; have x4 := B7.out.cell 4 rfl; have x5 := B7.out.cell 5 rfl
            have hzl := B7.out.lt
            have b8 := Blk.new w7 51 #[.int .i64 q.k, strV q.nm, strV q.to, .int .i64 q.h.pos, .slice P5 n1 p5, .slice P6 m2 p6]
            have hb8 : Below wr.heap.size wr (w7.alloc (.cells #[.int .i64 q.k, strV q.nm, strV q.to, .int .i64 q.h.pos, .slice P5 n1 p5, .slice P6 m2 p6] 51)) := HB7.out.alloc HB7.out.size _
            have ho8 := HO.out.below hb8
            have v := HPW.out
            have pg : PG (w7.alloc (.cells #[.int .i64 q.k, strV q.nm, strV q.to, .int .i64 q.h.pos, .slice P5 n1 p5, .slice P6 m2 p6] 51)) (NewIn w (w7.alloc (.cells #[.int .i64 q.k, strV q.nm, strV q.to, .int .i64 q.h.pos, .slice P5 n1 p5, .slice P6 m2 p6] 51)) (Value.slice A4 m4 e4).ownBlock) P5 n1 p5 P6 m2 p6 q := by
              have hout : ∀ b, (z + 1 ≤ b ∧ b < w6.heap.size) → NewIn w (w7.alloc (.cells #[.int .i64 q.k, strV q.nm, strV q.to, .int .i64 q.h.pos, .slice P5 n1 p5, .slice P6 m2 p6] 51)) (Value.slice A4 m4 e4).ownBlock b := fun b hb => ⟨by have h1 := HBW2.out.size; have h2 := HZ.out; omega, by have := HSX.out; simp; omega, fun e => by have := HLT.out b e.symm; omega⟩
              have hal : Fl.Alike (fun b => z + 1 ≤ b ∧ b < w6.heap.size) w7 (w7.alloc (.cells #[.int .i64 q.k, strV q.nm, strV q.to, .int .i64 q.h.pos, .slice P5 n1 p5, .slice P6 m2 p6] 51)) := (alike_below ((Below.refl w7.heap.size w7).alloc (Nat.le_refl _) _)).mono fun b hb => by have := HSX.out; omega
              exact ⟨v.h.l, v.h.l', HK5.out, HK6.out, v.h.m, v.h.m', (R5.out.to hal).mono hout, (R6.out.to hal).mono hout, v.h.p, v.k, v.nm, v.to, v.s, v.s'⟩
            have hc8 := PCells.one pg
            have HB8 := Lib.hid b8; have HW8 := Lib.hid (below_mv HBW2.out hb8); have HO8 := Lib.hid ho8; have HC8 := Lib.hid hc8
            have HLN := Lib.hid (allN_pre (j := k2) HX.out HT.out)
            clear b8 hb8 ho8 v pg hc8
            go_wp2_with (at_builtin; refine wpList_ownF rfl (.tmp 33) (.tmp 35) rfl w 1 1 (.slice A4 m4 e4) (some ⟨w7.heap.size, 0, none⟩) (allN (l.take k) ++ x.l.take k2) [q] _ rfl rfl HO8.out HC8.out rfl ⟨_, rfl, one_srcP HB8.out⟩ rfl (by decide) (by have := HLN.out; omega) HW8.out.size ?_; intro v' W' ho hg)
            obtain ⟨A9, c9, rfl, _⟩ := ownS_slice ho
            refine ⟨⟨k2 + 1, A9, _, c9, by omega, by go_num, rfl, ?_, HW8.out.grown hg HW8.out.size (fun g e => ownS_ge HO8.out g e)⟩, by simp [intOf]; omega⟩
            rw [take_at HQ.out, ← List.append_assoc]
            exact ho
        · go_wp2_with fail
          refine ⟨⟨k + 1, A4, m4, e4, by omega, by go_num, rfl, ?_, HBW2.out⟩, by simp [intOf]; omega⟩
          have ho := HO.out
          have e2 : x.l.take k2 = x.l := List.take_of_length_le (by rw [HXL.out]; omega)
          rw [e2, ← allN_next HX.out] at ho
          exact ho
    · go_wp2
      go_ret
      have e : l.take k = l := List.take_of_length_le (by rw [HN.out]; omega)
      have ho := HO.out
      rw [e] at ho
      obtain ⟨A9, c9, e9, h9⟩ := ownS_slice ho
      rw [e9] at ho ⊢
      exact ⟨A9, c9, rfl, h9, rdP_of_own_hi ho (fun b hb => ⟨hb.1, hb.2.1⟩) (Nat.le_refl _) rfl, HBW.out⟩

end Pn
end Go.Proofs.Ytbiiabfhngdeiaa
