/-
  Words and contracts, joined: TgLeaf TgWith FlBack FlMine FlWords FlThru FlHi FlPass TgPass FlCut FlRefPass TgBack TgWords PnEx.
-/
import Derived.Deep.RegionWith
import Derived.Laws.StructEq
import Derived.BigQuiet
import Derived.Deep.RegionLaw
import Derived.Test.YtdnkinajbebkoaaRows
import Derived.RangeFuncBound
import Derived.Shelf.Abstract
import Derived.Shelf.RegionOpen
import Derived.WalkKit
import Derived.OwnWalkIn
import Derived.TacticsInMore
import Derived.LoopNIn
import Derived.LoopIn
import Derived.Maps.AppendAt
import Derived.WalkSpells
import Derived.WalkLawsBesides
import Derived.Lib.Hide
import Derived.Deep.RegionHeld3
import Derived.Deep.Cut
import Derived.Test.YtdnkinajbebkoaaBT2
set_option maxRecDepth 100000
namespace Go.Proofs.Ytdnkinajbebkoaa
open Go.RowKit
set_option linter.unusedVariables false
set_option linter.unusedSimpArgs false
namespace Tg
open Tx Df Sq Hk Tr Pr Fl Pn

/-- Where an id stands first; -1: nowhere. -/
def findI (l : List Id_) (x : Id_) : Int := match l.findIdx? (fun y => decide (x = y)) with
  | some k => k
  | none => -1
theorem findI_at {l : List Id_} {x : Id_} {k : Nat} (hx : l[k]? = some x) (hb : ∀ (j : Nat) (y : Id_), l[j]? = some y → j < k → x ≠ y) : findI l x = (k : Int) := by
  have key : l.findIdx? (fun y => decide (x = y)) = some k := by
    rw [List.findIdx?_eq_some_iff_getElem]
    obtain ⟨hk, e⟩ := List.getElem?_eq_some_iff.1 hx
    refine ⟨hk, by rw [e]; exact decide_eq_true rfl, fun j hj => ?_⟩
    have := hb j _ (List.getElem?_eq_getElem (by omega)) hj
    simpa using this
  unfold findI
  rw [key]
theorem findI_no {l : List Id_} {x : Id_} (h : ∀ (j : Nat) (y : Id_), l[j]? = some y → x ≠ y) : findI l x = -1 := by
  have key : l.findIdx? (fun y => decide (x = y)) = none := by
    rw [List.findIdx?_eq_none_iff]
    intro y hy
    obtain ⟨j, hj⟩ := List.getElem?_of_mem hy
    exact decide_eq_false (h j y hj)
  unfold findI
  rw [key]
theorem findI_mem {l : List Id_} {x : Id_} : 0 ≤ findI l x ↔ x ∈ l := by
  unfold findI
  cases h : l.findIdx? (fun y => decide (x = y)) with
  | none =>
    rw [List.findIdx?_eq_none_iff] at h
    refine ⟨fun h => absurd h (by decide), fun hx => ?_⟩
    have := h x hx
    simp at this
  | some k =>
    rw [List.findIdx?_eq_some_iff_getElem] at h
    obtain ⟨hk, e, _⟩ := h
    have e := of_decide_eq_true e
    exact ⟨fun _ => e ▸ List.getElem_mem hk, fun _ => by dsimp only; omega⟩

attribute [local go_sem] eq_id
set_option maxHeartbeats 1000000 in
theorem IndexI (x : Id_) (A : Option Addr) (n c B : Nat) (l : List Id_) (w : World) (hn : l.length = n) (hln : n ≤ 1000000) (hB : B ≤ w.heap.size) (hR : RdI w B A l) :
    Calls Try.prog 63 #[.slice A n c, .agg #[.int .i64 x.1, .int .i64 x.2]] w (IntEnd w (findI l x)) := by
  obtain ⟨x, u⟩ := x
  have HN := Lib.hid hn; have HR := Lib.hid (Rd.up hR hB : RdI w w.heap.size A l)
  clear hn hR hB
  obtain ⟨iv, hiv⟩ : ∃ iv, findI l (x, u) = iv := ⟨_, rfl⟩
  rw [hiv]
  have HIV := Lib.hid hiv; clear hiv
  have b0 := Blk.new w 42 #[.int .i64 x, .int .i64 u]
  have hba : Below w.heap.size w (w.alloc (.cells #[.int .i64 x, .int .i64 u] 42)) := (Below.refl _ _).alloc (Nat.le_refl _) _
  have HB0 := Lib.hid b0; have HBA := Lib.hid hba
  clear b0 hba
  dsimp only
  go_enter Try.func63, Try.ntmps63
  go_wp2_with fail
  obtain ⟨w0, hw0⟩ : ∃ W, w.alloc (.cells #[.int .i64 x, .int .i64 u] 42) = W := ⟨_, rfl⟩
  obtain ⟨z, hz⟩ : ∃ z, w.heap.size = z := ⟨_, rfl⟩
  rw [hw0] at HB0 HBA ⊢
  rw [hz] at HB0 ⊢
  have HZ := Lib.hid hz
  clear hw0 hz
  have HR0 := Lib.hid (RdI.mv HR.out HBA.out)
  go_loopw [8] (fun i wr => ∃ k : Nat, k ≤ n ∧ i = .int .i64 (k : Int) ∧ (∀ (j : Nat) (y : Id_), l[j]? = some y → j < k → (x, u) ≠ y) ∧ Below w0.heap.size w0 wr) (fun i _ => n - (intOf i).toNat)
  case atStart => exact ⟨0, Nat.zero_le _, rfl, fun j _ _ hj => by omega, Below.refl _ _⟩
  case round =>
    obtain ⟨k, hk, rfl, hall, hbw⟩ := hrel
    have HA := Lib.hid hall; have HBW := Lib.hid hbw; clear hall hbw
    have HBE := Lib.hid (below_mv HBA.out HBW.out)
    by_cases hlt : k < n
    · have hki : (k : Int) < (n : Int) := by omega
      obtain ⟨a, y, rfl, hS, hy, c0, c1⟩ := ((RdI.mv HR0.out HBW.out).elem (k := k) (by rw [HN.out]; exact hlt))
      obtain ⟨y, v⟩ := y
      have HX := Lib.hid hy
      have bz := HB0.out.below HBW.out HB0.out.lt
      have z0 := bz.cell 0 rfl; have z1 := bz.cell 1 rfl; have hzl := bz.lt
      clear hy hS bz
      dsimp only at c0 c1
      by_cases e1 : x = y
      · subst e1
        by_cases e2 : u = v
        · subst e2
          have HE : Hid (iv = (k : Int)) := Lib.hid (by rw [← HIV.out]; exact findI_at HX.out HA.out)
          go_wp2
          go_quiet (fail)
          go_wp2
          go_ret
          exact ⟨by rw [HE.out]; rfl, below_drewN HBE.out _⟩
        · have e3 : (u == v) = false := by rw [beq_eq_false_iff_ne]; exact e2
          go_wp2
          go_quiet (fail)
          go_wp2
          refine ⟨⟨k + 1, by omega, by go_num, fun j y hy hj => ?_, below_drewN HBW.out _⟩, by simp [intOf]; omega⟩
          by_cases e : j = k
          · subst e
            have h1 := HX.out
            rw [h1] at hy
            injection hy with hy
            subst hy
            intro e; injection e with _ e; exact e2 e
          · exact HA.out j y hy (by omega)
      · have e3 : (x == y) = false := by rw [beq_eq_false_iff_ne]; exact e1
        go_wp2
        go_quiet (fail)
        go_wp2
        refine ⟨⟨k + 1, by omega, by go_num, fun j y hy hj => ?_, below_drewN HBW.out _⟩, by simp [intOf]; omega⟩
        by_cases e : j = k
        · subst e
          have h1 := HX.out
          rw [h1] at hy
          injection hy with hy
          subst hy
          intro e; injection e with e _; exact e1 e
        · exact HA.out j y hy (by omega)
    · have HE : Hid (iv = -1) := Lib.hid (by
        rw [← HIV.out]
        exact findI_no fun j y hy => HA.out j y hy (by have := (List.getElem?_eq_some_iff.1 hy).1; have := HN.out; omega))
      go_wp2
      go_ret
      exact ⟨by rw [HE.out]; rfl, HBE.out⟩
theorem ContainsI (x : Id_) (A : Option Addr) (n c B : Nat) (l : List Id_) (w : World) (b : Bool) (hn : l.length = n) (hln : n ≤ 1000000) (hB : B ≤ w.heap.size) (hR : RdI w B A l) (hb : decide (x ∈ l) = b) :
    Calls Try.prog 49 #[.slice A n c, .agg #[.int .i64 x.1, .int .i64 x.2]] w (BoolEnd w b) := by
  have HN := Lib.hid hn; have HR := Lib.hid hR; have HB := Lib.hid hb
  clear hn hR hb
  go_enter Try.func49, Try.ntmps49
  have hba : Below w.heap.size w (w.alloc (.cells #[.int .i64 x.1, .int .i64 x.2] 42)) := (Below.refl _ _).alloc (Nat.le_refl _) _
  go_wp2_with fail
  refine (IndexI x A n c B l _ HN.out hln (Nat.le_trans hB hba.size) (Rd.below HR.out (hba.mono hB))).mono ?_
  rintro e w1 ⟨rfl, hb1⟩
  have HB1 := Lib.hid (below_mv hba hb1); clear hb1 hba
  obtain ⟨i, hi⟩ : ∃ i, findI l x = i := ⟨_, rfl⟩
  have HI : Hid (decide (0 ≤ i) = b) := Lib.hid (by rw [← HB.out, ← hi]; exact decide_eq_decide.2 findI_mem)
  rw [hi]
  clear hi
  go_wp2
  go_ret
  exact ⟨ret_bool (by rw [← HI.out]), HB1.out⟩

end Tg
end Go.Proofs.Ytdnkinajbebkoaa

set_option maxRecDepth 100000
namespace Go.Proofs.Ytdnkinajbebkoaa
open Go.RowKit
set_option linter.unusedVariables false
set_option linter.unusedSimpArgs false
namespace Tg
open Tx Df Sq Hk Tr Pr Fl Pn

/-- A row of ids of one's own that is new is read as ids. -/
theorem rdI_own_hi {W : World} {base : Nat} {v : Value} {l : List Id_} (h : OwnI W base v l) : ∃ A c, v = .slice A l.length c ∧ l.length ≤ c ∧ RdG W (fun b => base ≤ b ∧ b < W.heap.size) A (idsV l) := by
  obtain ⟨A, c, rfl, hc, hr⟩ := rdI_own h
  refine ⟨A, c, rfl, hc, ?_⟩
  rcases hr with h0 | ⟨a, rfl, hlt, hcell⟩
  · exact .inl h0
  · rcases h.2 with ⟨e, _⟩ | ⟨g, cap, cur, e, hbg, _⟩
    · injection e with e; cases e
    · injection e with e
      injection e with e
      subst e
      exact .inr ⟨_, rfl, ⟨hbg, hlt⟩, hcell⟩

/-- How with ends. -/
def WithEnd (w : World) (p : Nm) (dn : Nat) (A : Option Addr) (n c : Nat) (e : Ending) (w' : World) : Prop :=
  ∃ D dc, e = .returned (nmV p.id D dn dc p.txt A n c) ∧ dn ≤ dc ∧ RdG w' (Since w w') D (idsV p.deps) ∧ Below w.heap.size w w'

set_option maxHeartbeats 1000000 in
theorem With (D : Option Addr) (dn dc : Nat) (A : Option Addr) (n c : Nat) (p : Nm) (A' : Option Addr) (n' c' : Nat) (w : World) (hd : dn ≤ 100000) (hdl : p.deps.length = dn) (hr : RdI w w.heap.size D p.deps) :
    Calls Try.prog 48 #[nmV p.id D dn dc p.txt A n c, .slice A' n' c'] w (WithEnd w p dn A' n' c') := by
  have HR := Lib.hid hr; have HN := Lib.hid hdl
  clear hr hdl
  have b0 := (Blk.new w 83 #[.int .i64 p.id.1, .int .i64 p.id.2, .slice D dn dc, strV p.txt, .slice A n c]).alloc (.cells #[.int .i64 0, .int .i64 0, .slice none 0 0, .string ⟨#[]⟩, .slice none 0 0] 45)
  have b1 := Blk.new (w.alloc (.cells #[.int .i64 p.id.1, .int .i64 p.id.2, .slice D dn dc, strV p.txt, .slice A n c] 83)) 45 #[.int .i64 0, .int .i64 0, .slice none 0 0, .string ⟨#[]⟩, .slice none 0 0]
  have hba := two_box w (.cells #[.int .i64 p.id.1, .int .i64 p.id.2, .slice D dn dc, strV p.txt, .slice A n c] 83) (.cells #[.int .i64 0, .int .i64 0, .slice none 0 0, .string ⟨#[]⟩, .slice none 0 0] 45)
  simp only [World.size_alloc] at b1
  go_enter Try.func48, Try.ntmps48
  go_upto_region 1 with fail
  generalize ((w.alloc (.cells #[.int .i64 p.id.1, .int .i64 p.id.2, .slice D dn dc, strV p.txt, .slice A n c] 83)).alloc (.cells #[.int .i64 0, .int .i64 0, .slice none 0 0, .string ⟨#[]⟩, .slice none 0 0] 45)) = w1 at b0 b1 hba ⊢
  obtain ⟨z, hz⟩ : ∃ z, w.heap.size = z := ⟨_, rfl⟩
  have HR1 := Lib.hid (RdI.mv HR.out hba)
  rw [hz] at b0 b1 ⊢
  have HB0 := Lib.hid b0; have HB1 := Lib.hid b1; have HBA := Lib.hid hba; have HZ := Lib.hid hz
  have x2 := b0.cell 2 rfl; have x4 := b0.cell 4 rfl
  clear b0 b1 hba hz HR
  go_upto_region 2 with (at_builtin; refine wpList_ownI rfl (.const (.slice none 0 0)) (.tmp 6) rfl w1.heap.size dn dc (.slice none 0 0) D [] p.deps rfl rfl (ownI_nil _ _) HR1.out HN.out (by simp; omega) (Nat.le_refl _) ?_; intro v w2 ho hg; have HO := Lib.hid (show OwnI w2 w1.heap.size v p.deps from ho); have hb2 : Below w1.heap.size w1 w2 := (Below.refl _ _).grown hg (Nat.le_refl _) (fun k e => by cases e); have b02 := HB0.out.below hb2 HB0.out.lt; have b12 := HB1.out.below hb2 HB1.out.lt; have HB2 := Lib.hid hb2; have HB02 := Lib.hid b02; have HB12 := Lib.hid b12; obtain ⟨A2, c2, hv, hc2, hr2⟩ := rdI_own_hi HO.out; rw [HN.out] at hv hc2; subst hv; have HR2 := Lib.hid hr2; clear ho hg hb2 hr2 x2 x4; have x0 := b02.cell 0 rfl; have x1 := b02.cell 1 rfl; have x2 := b02.cell 2 rfl; have x3 := b02.cell 3 rfl; have x4 := b02.cell 4 rfl; have f2 := b02.frozen 2; have f4 := b02.frozen 4; have l0 := b02.lt; clear b02 b12)
  have b03 : Blk ((w2.setCell ⟨z, 2, none⟩ (.slice A2 dn c2)).setCell ⟨z, 4, none⟩ (.slice A' n' c')) z 83 #[.int .i64 p.id.1, .int .i64 p.id.2, .slice A2 dn c2, strV p.txt, .slice A' n' c'] := (HB02.out.set 2 _).set 4 _
  have b13 : Blk ((w2.setCell ⟨z, 2, none⟩ (.slice A2 dn c2)).setCell ⟨z, 4, none⟩ (.slice A' n' c')) (z + 1) 45 #[.int .i64 0, .int .i64 0, .slice none 0 0, .string ⟨#[]⟩, .slice none 0 0] := (HB12.out.set_ne (by omega) 2 _).set_ne (by omega) 4 _
  have hb3 : Below w.heap.size w ((w2.setCell ⟨z, 2, none⟩ (.slice A2 dn c2)).setCell ⟨z, 4, none⟩ (.slice A' n' c')) := ((below_mv HBA.out HB2.out).setCell (p := ⟨z, 2, none⟩) (Nat.le_of_eq HZ.out) _).setCell (p := ⟨z, 4, none⟩) (Nat.le_of_eq HZ.out) _
  have hz1 : z + 1 < w1.heap.size := HB1.out.lt
  have hzw := HZ.out
  have hr3 : RdG ((w2.setCell ⟨z, 2, none⟩ (.slice A2 dn c2)).setCell ⟨z, 4, none⟩ (.slice A' n' c')) (fun b => z + 2 ≤ b ∧ b < w2.heap.size) A2 (idsV p.deps) := (HR2.out.mono fun b hb => ⟨by have := hb.1; omega, hb.2⟩).to (((alike_set w2 z 2 (.slice A2 dn c2)).trans_ (alike_set _ z 4 (.slice A' n' c')) (by simp)).mono fun b hb => by omega)
  have hs3 : ((w2.setCell ⟨z, 2, none⟩ (.slice A2 dn c2)).setCell ⟨z, 4, none⟩ (.slice A' n' c')).heap.size = w2.heap.size := by simp
  clear x0 x1 x2 x3 x4 f2 f4 l0
  generalize ((w2.setCell ⟨z, 2, none⟩ (.slice A2 dn c2)).setCell ⟨z, 4, none⟩ (.slice A' n' c')) = w3 at b03 b13 hb3 hr3 hs3 ⊢
  have x0 := b03.cell 0 rfl; have x1 := b03.cell 1 rfl; have x2 := b03.cell 2 rfl; have x3 := b03.cell 3 rfl; have x4 := b03.cell 4 rfl
  have y0 := b13.cell 0 rfl; have y1 := b13.cell 1 rfl; have y2 := b13.cell 2 rfl; have y3 := b13.cell 3 rfl; have y4 := b13.cell 4 rfl
  have g0 := b13.frozen 0; have g1 := b13.frozen 1; have g2 := b13.frozen 2; have g3 := b13.frozen 3; have g4 := b13.frozen 4
  have hl0 := b03.lt; have hl1 := b13.lt
  have b14 := blk5 b13 (.int .i64 p.id.1) (.int .i64 p.id.2) (.slice A2 dn c2) (strV p.txt) (.slice A' n' c')
  have hb4 := below_set5 hb3 (show w.heap.size ≤ z + 1 by omega) (.int .i64 p.id.1) (.int .i64 p.id.2) (.slice A2 dn c2) (strV p.txt) (.slice A' n' c')
  have hr4 := hr3.to ((alike_set5 w3 (z + 1) (.int .i64 p.id.1) (.int .i64 p.id.2) (.slice A2 dn c2) (strV p.txt) (.slice A' n' c')).mono fun b hb => by omega)
  have hs4 : (World.setCell (World.setCell (World.setCell (World.setCell (World.setCell w3 ⟨z + 1, 0, none⟩ (.int .i64 p.id.1)) ⟨z + 1, 1, none⟩ (.int .i64 p.id.2)) ⟨z + 1, 2, none⟩ (.slice A2 dn c2)) ⟨z + 1, 3, none⟩ (strV p.txt)) ⟨z + 1, 4, none⟩ (.slice A' n' c')).heap.size = w3.heap.size := by simp
  have HB4 := Lib.hid hb4; have HR4 := Lib.hid hr4; have HS4 := Lib.hid (hs4.trans hs3); have B14 := Lib.hid b14; have HC2 := Lib.hid hc2
  clear b03 b13 hb3 hr3 hs3 hb4 hr4 hs4 b14 hz1 hzw hc2 HB2 HB02 HB12 HR2 HO HB0 HB1 HBA HR1
  go_wp2_with fail
  generalize (World.setCell (World.setCell (World.setCell (World.setCell (World.setCell w3 ⟨z + 1, 0, none⟩ (.int .i64 p.id.1)) ⟨z + 1, 1, none⟩ (.int .i64 p.id.2)) ⟨z + 1, 2, none⟩ (.slice A2 dn c2)) ⟨z + 1, 3, none⟩ (strV p.txt)) ⟨z + 1, 4, none⟩ (.slice A' n' c')) = w4 at *
  have u0 := B14.out.cell 0 rfl; have u1 := B14.out.cell 1 rfl; have u2 := B14.out.cell 2 rfl; have u3 := B14.out.cell 3 rfl; have u4 := B14.out.cell 4 rfl
  refine bodyPost_ret (v := .agg #[.int .i64 p.id.1, .int .i64 p.id.2, .slice A2 dn c2, strV p.txt, .slice A' n' c']) (by simp [results, Try.results48, go_sem, u0, u1, u2, u3, u4]) rfl ?_
  exact ⟨A2, c2, rfl, HC2.out, HR4.out.mono fun b hb => ⟨by have := HZ.out; omega, by have := HS4.out; omega⟩, HB4.out⟩

end Tg
end Go.Proofs.Ytdnkinajbebkoaa

set_option maxRecDepth 100000
namespace Go.Proofs.Ytdnkinajbebkoaa
open Go.RowKit Go.Shelf
set_option linter.unusedVariables false
namespace Fl
open Tx Rg
attribute [local go_sem] Oper.semAt_some

/-- Places from the last one on. -/
def dn (m : Nat) : List Nat := (List.range m).reverse
theorem dn_zero : dn 0 = [] := rfl
theorem dn_succ (k : Nat) : dn (k + 1) = k :: dn k := by unfold dn; rw [List.range_succ, List.reverse_append]; rfl
theorem dn_length (m : Nat) : (dn m).length = m := by unfold dn; simp
theorem dn_split : ∀ {m : Nat} {pre post : List Nat} {x : Nat}, dn m = pre ++ x :: post → pre.length + x + 1 = m
  | 0, pre, post, x, h => by simp [dn_zero] at h
  | m + 1, [], post, x, h => by
    rw [dn_succ] at h
    injection h with h1 h2
    simp; omega
  | m + 1, y :: pre, post, x, h => by
    rw [dn_succ, List.cons_append] at h
    injection h with h1 h2
    have := dn_split h2
    simp; omega

/-- What a round must keep: the box in which the slice lies, and that its changes can be read. -/
def KpL (Bs : Nat) (A : Option Addr) (m : Nat) (W W' : World) : Prop := (∀ v, Boxed W Bs 43 v → Boxed W' Bs 43 v) ∧ (Cells6 W A m → Cells6 W' A m)
section
variable {Bs m : Nat} {A : Option Addr}
theorem kpL_t {W W1 W2 : World} (h : KpL Bs A m W W1) (k : KpL Bs A m W1 W2) : KpL Bs A m W W2 := ⟨fun v hv => k.1 v (h.1 v hv), fun hv => k.2 (h.2 hv)⟩
theorem kpL_b {l : Nat} (hB : Bs ≠ l) (W : World) (o o' : Obj) (h : W.heap[l]? = some o) (ho : o.isCells = false) : KpL Bs A m W (W.putObj l o') :=
  ⟨fun v hv => hv.kept (grownBy_putObj' W l o') (by simpa using hB), fun hv => hv.kc (keepC_plain (grownBy_putObj' W l o') (fun r e => by cases e; exact ⟨o, h, ho⟩))⟩
theorem kpL_new {W W' : World} (hg : W.grownBy W' none) : KpL Bs A m W W' := ⟨fun v hv => hv.kept hg (by simp), fun hv => hv.kc (keepC_plain hg (fun r e => by cases e))⟩
end

/-- What is handed over. -/
def EL (m : Nat) (A : Option Addr) (i : Nat) (vals : Array Value) (W : World) : Prop := i < m ∧ ∃ a v0 v1 v2 v3 v4 v5, A = some a ∧ vals = #[.int .i64 (i : Int), .agg #[v0, v1, v2, v3, v4, v5]] ∧
  W.cell? (a.add (i * 6)) = some v0 ∧ W.cell? ⟨(a.add (i * 6)).block, (a.add (i * 6)).off + 1, none⟩ = some v1 ∧ W.cell? ⟨(a.add (i * 6)).block, (a.add (i * 6)).off + 2, none⟩ = some v2 ∧
  W.cell? ⟨(a.add (i * 6)).block, (a.add (i * 6)).off + 3, none⟩ = some v3 ∧ W.cell? ⟨(a.add (i * 6)).block, (a.add (i * 6)).off + 4, none⟩ = some v4 ∧ W.cell? ⟨(a.add (i * 6)).block, (a.add (i * 6)).off + 5, none⟩ = some v5

theorem backL_in (n : Nat) (A : Option Addr) (l c : Nat) (w : World) :
    CallsIn Fence.wide n Try.prog 73 #[.slice A l c] w fun e w' => e = .returned (.func (.func 85) #[] #[.pointer (some ⟨w.heap.size, 0, none⟩)]) ∧ w' = w.alloc (.cells #[.slice A l c] 43) := by
  refine callsIn_of_wp Try.func73 rfl trivial ?_ rfl
  simp only [Try.ntmps73, List.size_toArray, List.length_cons, List.length_nil, Nat.reduceAdd, Nat.reduceSub, Array.replicate_succ, Array.replicate_zero, List.push_toArray, List.append_toArray, List.nil_append, List.cons_append]
  gi_wp2
  go_ret
  exact ⟨rfl, rfl⟩

set_option maxRecDepth 100000 in
set_option maxHeartbeats 2000000 in
theorem backL1_in (n l Bs cap m : Nat) (A : Option Addr) (hle : m ≤ 1000000) (J Jx : List Nat → World → Prop)
    (hY : ∀ pre x post vals W1, dn m = pre ++ x :: post → J pre W1 → EL m A x vals W1 → YieldAt Fence.wide (n - 1) Try.prog l vals W1 fun e W' =>
      (e = .returned (.bool true) ∧ J (pre ++ [x]) W' ∧ KpL Bs A m W1 W') ∨ (e = .returned (.bool false) ∧ Jx (pre ++ [x]) W'))
    (W : World) (hBs : Boxed W Bs 43 (.slice A m cap)) (hR : Cells6 W A m) (h0 : J [] W) :
    CallsIn Fence.wide n Try.prog 85 #[.func (.yield l) #[] #[], .pointer (some ⟨Bs, 0, none⟩)] W fun e W' => (∃ v, e = .returned v) ∧ (J (dn m) W' ∨ ∃ pre post, dn m = pre ++ post ∧ Jx pre W') := by
  have hc := hBs.cell
  refine callsIn_of_wp Try.func85 rfl trivial ?_ rfl
  simp only [Try.ntmps85, List.size_toArray, List.length_cons, List.length_nil, Nat.reduceAdd, Nat.reduceSub, Array.replicate_succ, Array.replicate_zero, List.push_toArray, List.append_toArray, List.nil_append, List.cons_append]
  gi_wp2
  gi_loopw [3] (fun i wr => ∃ k pre, k ≤ m ∧ i = .int .i64 ((k : Int) - 1) ∧ dn m = pre ++ dn k ∧ J pre wr ∧ Boxed wr Bs 43 (.slice A m cap) ∧ Cells6 wr A m) (fun i _ => (intOf i + 1).toNat)
  case atStart => exact ⟨m, [], Nat.le_refl _, rfl, rfl, h0, hBs, hR⟩
  case round =>
    clear hc
    obtain ⟨k, pre, hk, rfl, hb, hJs, hBs', hR'⟩ := hrel
    have HB := Lib.hid hb; clear hb
    have HR := Lib.hid hR'; clear hR'
    have hc := hBs'.cell
    cases k with
    | zero =>
      have e : (((0 : Nat) : Int) - 1) = -1 := rfl
      rw [e]; clear e
      gi_wp2
      go_end0
      exact ⟨⟨_, rfl⟩, .inl (by have := HB.out; rw [dn_zero, List.append_nil] at this; rw [this]; exact hJs)⟩
    | succ k =>
      have e : (((k + 1 : Nat) : Int) - 1) = (k : Int) := by omega
      rw [e]; clear e
      have HB2 : Hid (dn m = pre ++ k :: dn k) := Lib.hid (by rw [HB.out, dn_succ])
      clear HB
      obtain ⟨a, v0, v1, v2, v3, v4, v5, rfl, c0, c1, c2, c3, c4, c5⟩ := HR.out k (by omega)
      obtain ⟨fn, tmps, assign, body, hy, hRR⟩ := hY pre k _ #[.int .i64 (k : Int), .agg #[v0, v1, v2, v3, v4, v5]] wr HB2.out hJs ⟨by omega, a, v0, v1, v2, v3, v4, v5, rfl, rfl, c0, c1, c2, c3, c4, c5⟩
      gi_wp2
      refine ⟨(fun h => by cases h), ?_⟩
      refine hRR.mono ?_
      rintro e W3 (⟨rfl, hJ3, hk3⟩ | ⟨rfl, hJx3⟩)
      · have hc3 := (hk3.1 _ hBs').cell
        clear c0 c1 c2 c3 c4 c5
        gi_wp2
        go_roundw
        case rel => exact ⟨k, pre ++ [k], by omega, rfl, by rw [HB2.out]; simp, hJ3, hk3.1 _ hBs', hk3.2 HR.out⟩
        case measure => simp [intOf]
      · gi_wp2
        refine bodyPost_ret (results_none rfl _ _ _) rfl ?_
        exact ⟨⟨_, rfl⟩, .inr ⟨pre ++ [k], dn k, by rw [HB2.out]; simp, hJx3⟩⟩

theorem backL_gives (n Bs cap m : Nat) (A : Option Addr) (hle : m ≤ 1000000) (w : World) (hBs : Boxed w Bs 43 (.slice A m cap)) (hR : Cells6 w A m) :
    GivesE Try.prog Plain n 85 #[.pointer (some ⟨Bs, 0, none⟩)] (EL m A) (dn m) (KpL Bs A m) w := fun J Jx W hW hs _ _ hY h0 =>
  backL1_in n _ Bs cap m A hle J Jx (fun pre x post vals W1 h1 h2 h3 => yield_less (hY pre x post vals W1 h1 h2 h3)) W ((hW.block Bs hBs.lt).trans hBs) (cells6_below hR hW) h0

end Fl
end Go.Proofs.Ytdnkinajbebkoaa

set_option maxRecDepth 100000
namespace Go.Proofs.Ytdnkinajbebkoaa
open Go.RowKit
set_option linter.unusedVariables false
set_option linter.unusedSimpArgs false
namespace Fl
open Tx Df Sq Hk Tr Pr

/-- The cells of one change within a row's. -/
def CellsAt (W : World) (S : Nat → Prop) (xs : List Value) (k : Nat) (x : Ch) : Prop :=
  ∃ A n c B m d, xs[k * 6]? = some (.int .i64 x.k) ∧ xs[k * 6 + 1]? = some (strV x.nm) ∧ xs[k * 6 + 2]? = some (strV x.to) ∧ xs[k * 6 + 3]? = some (.int .i64 x.h.pos) ∧ xs[k * 6 + 4]? = some (.slice A n c) ∧ xs[k * 6 + 5]? = some (.slice B m d) ∧ PG W S A n c B m d x
section
variable {W : World} {S T : Nat → Prop} {xs : List Value} {k p : Nat} {x y : Ch}
theorem cellsAt_set (h : CellsAt W S xs p y) (hp : p ≠ k) (u u' : Value) : CellsAt W S ((xs.set (k * 6 + 4) u).set (k * 6 + 5) u') p y := by
  obtain ⟨A, n, c, B, m, d, h0, h1, h2, h3, h4, h5, h6⟩ := h
  have key : ∀ b, b < 6 → ((xs.set (k * 6 + 4) u).set (k * 6 + 5) u')[p * 6 + b]? = xs[p * 6 + b]? := fun b hb => by
    rw [List.getElem?_set_ne (by omega), List.getElem?_set_ne (by omega)]
  exact ⟨A, n, c, B, m, d, (key 0 (by decide)).trans h0, (key 1 (by decide)).trans h1, (key 2 (by decide)).trans h2, (key 3 (by decide)).trans h3, (key 4 (by decide)).trans h4, (key 5 (by decide)).trans h5, h6⟩
theorem cellsAt_new {A B : Option Addr} {n c m d : Nat} (h : CellsAt W T xs k x) (hl : k * 6 + 5 < xs.length) (hy : PG W S A n c B m d x) : CellsAt W S ((xs.set (k * 6 + 4) (.slice A n c)).set (k * 6 + 5) (.slice B m d)) k x := by
  obtain ⟨_, _, _, _, _, _, h0, h1, h2, h3, _, _, _⟩ := h
  refine ⟨A, n, c, B, m, d, ?_, ?_, ?_, ?_, ?_, ?_, hy⟩
  · rw [List.getElem?_set_ne (by omega), List.getElem?_set_ne (by omega)]; exact h0
  · rw [List.getElem?_set_ne (by omega), List.getElem?_set_ne (by omega)]; exact h1
  · rw [List.getElem?_set_ne (by omega), List.getElem?_set_ne (by omega)]; exact h2
  · rw [List.getElem?_set_ne (by omega), List.getElem?_set_ne (by omega)]; exact h3
  · rw [List.getElem?_set_ne (by omega), List.getElem?_set_self (by omega)]
  · rw [List.getElem?_set_self (by rw [List.length_set]; exact hl)]
end

/-- Blocks made behind w that are not the row. -/
def Fresh (w W : World) (row : Option Nat) : Nat → Prop := fun b => w.heap.size ≤ b ∧ b < W.heap.size ∧ some b ≠ row
theorem fresh_up {w W W' : World} {row : Option Nat} (hs : W.heap.size ≤ W'.heap.size) : ∀ b, Fresh w W row b → Fresh w W' row b := fun b h => ⟨h.1, Nat.lt_of_lt_of_le h.2.1 hs, h.2.2⟩
theorem fresh_out {w W : World} {row : Option Nat} : ∀ b, Fresh w W row b → Out W row b := fun b h => ⟨h.2.1, h.2.2⟩

/-- A row of changes, the first k of them with lines of their own. -/
def OwnK (w W : World) (v : Value) (l : List Ch) (k : Nat) : Prop := ∃ xs, W.ownsRow w.heap.size 54 6 v l.length xs ∧ PCells W (Fresh w W v.ownBlock) (l.take k) xs ∧ PCells W (Out W v.ownBlock) l xs
section
variable {w W W' : World} {v : Value} {l : List Ch} {k : Nat}
theorem ownK_start (h : OwnP W w.heap.size v l) : OwnK w W v l 0 := by
  obtain ⟨xs, h1, h2⟩ := h
  exact ⟨xs, h1, by rw [List.take_zero]; exact PCells.nil _ _ _, h2⟩
theorem OwnK.own (h : OwnK w W v l k) : OwnP W w.heap.size v l := by
  obtain ⟨xs, h1, h2, h3⟩ := h
  exact ⟨xs, h1, h3⟩
theorem OwnK.done (h : OwnK w W v l k) (hk : l.length ≤ k) : OwnS W (Fresh w W v.ownBlock) w.heap.size v l := by
  obtain ⟨xs, h1, h2, h3⟩ := h
  rw [List.take_of_length_le hk] at h2
  exact ⟨xs, h1, h2⟩
theorem OwnK.below (h : OwnK w W v l k) (hb : Below W.heap.size W W') : OwnK w W' v l k := by
  obtain ⟨xs, h1, h2, h3⟩ := h
  exact ⟨xs, own_gr h1 (below_gr_row hb), (h2.to (fun b _ hl => hb.block b hl)).mono (fresh_up hb.size), (h3.to (fun b _ hl => hb.block b hl)).mono (out_up hb.size)⟩
theorem OwnK.step {g n cap : Nat} {x : Ch} {D D' : Option Addr} {m d m' d' : Nat} (h : OwnK w W (.slice (some ⟨g, 0, none⟩) n cap) l k) (hx : l[k]? = some x) (hy : PG W (Fresh w W (some g)) D m d D' m' d' x) :
    OwnK w ((W.setCell ⟨g, k * 6 + 4, none⟩ (.slice D m d)).setCell ⟨g, k * 6 + 5, none⟩ (.slice D' m' d')) (.slice (some ⟨g, 0, none⟩) n cap) l (k + 1) := by
  obtain ⟨xs, hr, h2, h3⟩ := h
  have hn : l.length = n := by
    rcases hr.2 with ⟨h0, _⟩ | ⟨g', cap', cur, h0, _⟩
    · cases h0
    · injection h0 with _ h0; exact h0.symm
  subst hn
  have hk : k < l.length := (List.getElem?_eq_some_iff.1 hx).1
  have hxl := hr.1
  obtain ⟨r1, g1⟩ := hr.stored (k * 6 + 4) (.slice D m d)
  obtain ⟨r2, g2⟩ := r1.stored (k * 6 + 5) (.slice D' m' d')
  have al : ∀ (S : Nat → Prop), (∀ b, S b → b ≠ g) → Alike S W ((W.setCell ⟨g, k * 6 + 4, none⟩ (.slice D m d)).setCell ⟨g, k * 6 + 5, none⟩ (.slice D' m' d')) := fun S hS b hb hl =>
    (alike_set _ g _ _ b (hS b hb) (by simp; exact hl)).trans (alike_set W g _ _ b (hS b hb) hl)
  have sz : W.heap.size ≤ ((W.setCell ⟨g, k * 6 + 4, none⟩ (.slice D m d)).setCell ⟨g, k * 6 + 5, none⟩ (.slice D' m' d')).heap.size := by simp
  have c0 : CellsAt W (Out W (some g)) xs k x := h3 k x hx
  refine ⟨_, r2, ?_, ?_⟩
  · refine (PCells.to (W := W) (S := Fresh w W (some g)) ?_ (al _ fun b hb e => hb.2.2 (by rw [e]))).mono (fresh_up sz)
    intro p y hy'
    rw [List.getElem?_take] at hy'
    by_cases e : p = k
    · subst e
      rw [if_pos (by omega)] at hy'
      rw [hx] at hy'
      injection hy' with hy'
      subst hy'
      exact cellsAt_new c0 (by omega) hy
    · have hp : p < k := by
        by_cases hp : p < k + 1
        · omega
        · rw [if_neg hp] at hy'; cases hy'
      rw [if_pos (by omega)] at hy'
      exact cellsAt_set (h2 p y (by rw [List.getElem?_take, if_pos hp]; exact hy')) e _ _
  · refine (PCells.to (W := W) (S := Out W (some g)) ?_ (al _ fun b hb e => hb.2 (by rw [e]))).mono (out_up sz)
    intro p y hy'
    by_cases e : p = k
    · subst e
      rw [hx] at hy'
      injection hy' with hy'
      subst hy'
      exact cellsAt_new c0 (by omega) (hy.mono fresh_out)
    · exact cellsAt_set (h3 p y hy') e _ _
end

/-- How own ends. -/
def MineEnd (w : World) (n : Nat) (l : List Ch) (e : Ending) (w' : World) : Prop :=
  ∃ A c, e = .returned (.slice A n c) ∧ n ≤ c ∧ OwnS w' (Fresh w w' (Value.slice A n c).ownBlock) w.heap.size (.slice A n c) l ∧ Below w.heap.size w w'

set_option maxRecDepth 100000 in
set_option maxHeartbeats 4000000 in
theorem ownL (A : Option Addr) (n c : Nat) (l : List Ch) (w : World) (hn : l.length = n) (hle : n ≤ 1000) (hl : Lt l) (hR : RdP w (· < w.heap.size) A l) :
    Calls Try.prog 64 #[.slice A n c] w (MineEnd w n l) := by
  have HR := Lib.hid hR; have HN := Lib.hid hn; have HL := Lib.hid hl
  clear hR hn hl
  go_enter Try.func64, Try.ntmps64
  go_wp2_with (at_builtin; refine wpList_ownPL rfl (.const (.slice none 0 0)) (.tmp 6) rfl w.heap.size w.heap.size n c (.slice none 0 0) A [] l rfl rfl (ownP_nil _ _) HR.out (Nat.le_refl _) HN.out (by simp; omega) (Nat.le_refl _) ?_; intro v w1 ho hg; have HO := Lib.hid (show OwnP w1 w.heap.size v l from ho); have HB := Lib.hid ((Below.refl w.heap.size w).grown hg (Nat.le_refl _) (fun k e => by cases e)); clear ho hg; obtain ⟨A1, c1, hv1, hc1⟩ : ∃ A1 c1, v = .slice A1 n c1 ∧ n ≤ c1 := (rdP_own HO.out).elim fun A1 h => h.elim fun c1 h => ⟨A1, c1, by rw [← HN.out]; exact h.1, by rw [← HN.out]; exact h.2.1⟩; subst hv1)
  clear HR
  go_loopw [10] (fun i wr => ∃ k : Nat, k ≤ n ∧ i = .int .i64 (k : Int) ∧ OwnK w wr (.slice A1 n c1) l k ∧ Below w.heap.size w wr) (fun i _ => n - (intOf i).toNat)
  case atStart => exact ⟨0, Nat.zero_le _, rfl, ownK_start HO.out, HB.out⟩
  case round =>
    clear HO HB
    obtain ⟨k, hk, rfl, ho, hb⟩ := hrel
    have HB := Lib.hid hb; have HO := Lib.hid ho
    clear hb ho
    by_cases hlt : k < n
    · obtain ⟨g, cap, e, hg1, hg2⟩ : ∃ g cap, Value.slice A1 n c1 = .slice (some ⟨g, 0, none⟩) n cap ∧ w.heap.size ≤ g ∧ g < wr.heap.size := by
        obtain ⟨xs, hr, _⟩ := HO.out
        rcases hr.2 with ⟨_, h1⟩ | ⟨g, cap, cur, e, hbg, hgb, hc, _⟩
        · have := HN.out; omega
        · injection e with e1 e2 e3
          subst e1 e3
          exact ⟨g, c1, rfl, hbg, (Array.getElem?_eq_some_iff.1 hgb).1⟩
      injection e with e1 e2 e3
      subst e1 e3
      clear e2
      have hki : (k : Int) < (n : Int) := by omega
      obtain ⟨x, hx⟩ : ∃ x, l[k]? = some x := ⟨_, List.getElem?_eq_getElem (by rw [HN.out]; exact hlt)⟩
      obtain ⟨B, i, j, D, m, d, c0, c1', c2, c3, c4, c5, hf, hp⟩ := OwnS.elem HO.out.own HN.out hx
      have HX := Lib.hid hx
      have HLX := Lib.hid (lt_len hp (HL.out x (List.mem_of_getElem? hx)))
      have HBX := Lib.hid (Blk.new wr 54 #[.int .i64 x.k, strV x.nm, strV x.to, .int .i64 x.h.pos, .slice B i j, .slice D m d])
      have HP := Lib.hid ((hp.mono fun b h => h.1).pv)
      clear hx hf hp
      have hba : Below wr.heap.size wr (wr.alloc (.cells #[.int .i64 x.k, strV x.nm, strV x.to, .int .i64 x.h.pos, .slice B i j, .slice D m d] 54)) := (Below.refl _ _).alloc (Nat.le_refl _) _
      have HPW := Lib.hid (HP.out.below hba); have HOW := Lib.hid (HO.out.below hba); have HBW := Lib.hid (HB.out.trans (hba.mono HB.out.size))
      have hsz : (wr.alloc (.cells #[.int .i64 x.k, strV x.nm, strV x.to, .int .i64 x.h.pos, .slice B i j, .slice D m d] 54)).heap.size = wr.heap.size + 1 := by simp
      have HSZ := Lib.hid hsz
      clear hba hsz HP HO HB
      go_upto_region 5 with fail
      clear c0 c1' c2 c3 c4 c5
      generalize (wr.alloc (.cells #[.int .i64 x.k, strV x.nm, strV x.to, .int .i64 x.h.pos, .slice B i j, .slice D m d] 54)) = W at *
      obtain ⟨z, hz⟩ : ∃ z, wr.heap.size = z := ⟨_, rfl⟩
      rw [hz] at HBX HPW HSZ hg2 ⊢
      clear hz
      have hlx := HLX.out
      have PX : Hid (∀ X, Below W.heap.size W X → Calls Try.prog 70 #[.slice B i j] X (fun e u => ∃ P p, e = .returned (.slice P i p) ∧ i ≤ p ∧ RdS u u.heap.size P x.h.old ∧ Hi X.heap.size P ∧ X.grownBy u none)) := Lib.hid (fun X hb => ownLines B i j z x.h.old X HPW.out.h.l (by omega) (by have := HSZ.out; have := hb.size; omega) (Rd.below HPW.out.h.r (hb.mono (by have := HSZ.out; omega))))
      have PY : Hid (∀ X, Below W.heap.size W X → Calls Try.prog 70 #[.slice D m d] X (fun e u => ∃ P p, e = .returned (.slice P m p) ∧ m ≤ p ∧ RdS u u.heap.size P x.h.new ∧ Hi X.heap.size P ∧ X.grownBy u none)) := Lib.hid (fun X hb => ownLines D m d z x.h.new X HPW.out.h.l' (by omega) (by have := HSZ.out; have := hb.size; omega) (Rd.below HPW.out.h.r' (hb.mono (by have := HSZ.out; omega))))
      have HGZ := Lib.hid (show z ≠ g by omega)
      have HSB : Hid (∀ X, Blk X z 54 #[.int .i64 x.k, strV x.nm, strV x.to, .int .i64 x.h.pos, .slice B i j, .slice D m d] → X.cell? ⟨z, 4, none⟩ = some (.slice B i j) ∧ X.cell? ⟨z, 5, none⟩ = some (.slice D m d)) := Lib.hid (fun X b => ⟨b.cell 4 rfl, b.cell 5 rfl⟩)
      have HC : Hid (∀ X, Below W.heap.size W X → X.cell? ⟨z, 4, none⟩ = some (.slice B i j) ∧ X.cell? ⟨z, 5, none⟩ = some (.slice D m d)) := Lib.hid (fun X hb => HSB.out X (HBX.out.below hb HBX.out.lt))
      have HKD := Lib.hid (HC.out W.drew (below_drewN (Below.refl _ _) 1))
      have hzl := HBX.out.lt
      obtain ⟨z4, z5⟩ := HC.out W (Below.refl _ _)
      go_region_held3 (fun X => X.cell? ⟨z, 4, none⟩ = some (.slice B i j) ∧ X.cell? ⟨z, 5, none⟩ = some (.slice D m d))
        (first | (with_reducible exact HKD.out) | (with_reducible exact hS5) | (with_reducible exact hS6) | (with_reducible exact HK2.out _ _) | (with_reducible exact HK3.out _ _ _ _))
        (first
          | (go_at_call 70; (with_reducible refine (PX.out W.drew (below_drewN (Below.refl _ _) 1)).mono ?_); rintro e w5 ⟨P5, p5, rfl, hk5, hr5, hh5, hg5⟩; have hbu := (below_drewN (Below.refl W.heap.size W) 1).trans (below_gr hg5); have hS5 := HC.out w5 hbu; have HU5 := Lib.hid hbu; have HR5 := Lib.hid hr5; have HH5 := Lib.hid hh5; have HK5 := Lib.hid hk5; clear hg5 hbu hr5 hh5 hk5)
          | (go_at_call 70; (with_reducible refine (PY.out w5 HU5.out).mono ?_); rintro e w6 ⟨P6, p6, rfl, hk6, hr6, hh6, hg6⟩; have hb6 := below_gr hg6; have hbu := HU5.out.trans (hb6.mono HU5.out.size); have hS6 := HC.out w6 hbu; have HU6 := Lib.hid hbu; have HB6 := Lib.hid hb6; have HR6 := Lib.hid hr6; have HH6 := Lib.hid hh6; have HK6 := Lib.hid hk6;
              have bz := HBX.out.below hbu HBX.out.lt;
              have HK2 := Lib.hid (fun (a : Nat) (v : Value) => HSB.out _ (bz.set_ne HGZ.out a v));
              have HK3 := Lib.hid (fun (a : Nat) (v : Value) (a' : Nat) (v' : Value) => HSB.out _ ((bz.set_ne HGZ.out a v).set_ne HGZ.out a' v'));
              have ho6 := HOW.out.below hbu; have HO6 := Lib.hid ho6;
              obtain ⟨_, _, _, _, _, _, q0, q1, q2, q3, q4, q5, qf, _⟩ := OwnS.elem ho6.own HN.out HX.out;
              have f4 := qf (k * 6 + 4); have f5 := qf (k * 6 + 5);
              clear q0 q1 q2 q3 qf ho6 bz hb6 hbu hr6 hh6 hk6 hg6))
      have HGL := Lib.hid (And.intro hg1 hg2)
      clear z4 z5 q4 q5 f4 f5 hS5 hS6 hzl HK2 HK3 HKD HC HSB PX PY
      go_wp2_with fail
      go_roundw
      case rel =>
        have v := HPW.out
        have hsz := HSZ.out
        have hgl := HGL.out
        have e5 : w5.heap.size ≤ w6.heap.size := HB6.out.size
        have u5 : W.heap.size ≤ w5.heap.size := HU5.out.size
        have r5 : RdG w6 (Fresh w w6 (some g)) P5 (x.h.old.map strV) := (rdG_hi (Rd.below HR5.out HB6.out) HH5.out).mono fun b hb => by
          have h1 : W.heap.size ≤ b := hb.1
          have h2 : b < w5.heap.size := hb.2
          exact ⟨by omega, by omega, fun e => by injection e with e; omega⟩
        have r6 : RdG w6 (Fresh w w6 (some g)) P6 (x.h.new.map strV) := (rdG_hi HR6.out HH6.out).mono fun b hb => by
          have h1 : w5.heap.size ≤ b := hb.1
          have h2 : b < w6.heap.size := hb.2
          exact ⟨by omega, by omega, fun e => by injection e with e; omega⟩
        refine ⟨k + 1, by omega, by go_num, OwnK.step HO6.out HX.out ⟨v.h.l, v.h.l', HK5.out, HK6.out, v.h.m, v.h.m', r5, r6, v.h.p, v.k, v.nm, v.to, v.s, v.s'⟩, ?_⟩
        exact ((HBW.out.trans (HU6.out.mono HBW.out.size)).setCell (p := ⟨g, k * 6 + 4, none⟩) hgl.1 _).setCell (p := ⟨g, k * 6 + 5, none⟩) hgl.1 _
      case measure => simp [intOf]; omega
    · have HE : Hid (l.length ≤ k) := Lib.hid (by rw [HN.out]; omega)
      go_wp2
      go_ret
      exact ⟨A1, c1, rfl, hc1, HO.out.done HE.out, HB.out⟩

end Fl
end Go.Proofs.Ytdnkinajbebkoaa

set_option maxRecDepth 100000
namespace Go.Proofs.Ytdnkinajbebkoaa
open Go.RowKit
set_option linter.unusedVariables false
namespace Fl
open Tx Df Sq Hk Tr Pr

theorem set_mid {α : Type} {l post : List α} {k : Nat} {p y : α} (h : l[k]? = some p) : (l.take (k + 1) ++ post).set k y = l.take k ++ y :: post := by
  have hk : k < l.length := (List.getElem?_eq_some_iff.1 h).1
  have hl : (l.take k).length = k := by rw [List.length_take]; omega
  rw [take_at h, List.append_assoc, List.set_append_right _ _ (by omega), hl, Nat.sub_self]
  rfl
theorem at_mid {α : Type} {l post : List α} {k : Nat} {p : α} (h : l[k]? = some p) : (l.take (k + 1) ++ post)[k]? = some p := by
  have hk : k < l.length := (List.getElem?_eq_some_iff.1 h).1
  rw [List.getElem?_append_left (by rw [List.length_take]; omega), List.getElem?_take, if_pos (by omega)]
  exact h
theorem len_mid {α : Type} {l post : List α} {k n : Nat} (h : post.length + k = n) (hl : l.length = n) : (l.take k ++ post).length = n := by
  rw [List.length_append, List.length_take]; omega

/-- How a call of Pass ends that tells x, y and bo. -/
def LPassEnd (w : World) (x y : List Ch) (bo : Bool) (e : Ending) (w' : World) : Prop :=
  ∃ A c B d, e = .returned (.tuple #[.slice A x.length c, .slice B y.length d, .bool bo]) ∧ RdP w' (· < w'.heap.size) A x ∧ RdP w' (· < w'.heap.size) B y ∧ Below w.heap.size w w'
def outF (o : Option (List Ch × List Ch)) : List Ch × List Ch := o.getD ([], [])
section
variable {w w' : World} {x y x' y' : List Ch} {bo : Bool} {o : Option (List Ch × List Ch)}
theorem outF_of (h : outF o = (x, y)) (hb : o.isSome = true) : o = some (x, y) := by
  cases o with
  | none => cases hb
  | some z => exact congrArg some h
end
theorem ownS_lt {W : World} {S : Nat → Prop} {base : Nat} {v : Value} {l : List Ch} (h : OwnS W S base v l) : ∀ g, v.ownBlock = some g → g < W.heap.size := fun g hg => by
  obtain ⟨xs, hr, hF⟩ := h
  rcases hr.2 with ⟨rfl, _⟩ | ⟨g', cap, cur, rfl, hbg, hg', hc, _⟩
  · cases hg
  · injection hg with hg
    subst hg
    exact (Array.getElem?_eq_some_iff.1 hg').1
theorem ownS_ge {W : World} {S : Nat → Prop} {base : Nat} {v : Value} {l : List Ch} (h : OwnS W S base v l) : ∀ g, v.ownBlock = some g → base ≤ g := fun g hg => by
  obtain ⟨xs, hr, hF⟩ := h
  exact own_ge hr g hg
theorem ownS_slice {W : World} {S : Nat → Prop} {base : Nat} {v : Value} {l : List Ch} (h : OwnS W S base v l) : ∃ A c, v = .slice A l.length c ∧ l.length ≤ c := by
  obtain ⟨xs, hr, hF⟩ := h
  rcases hr.2 with ⟨rfl, h1⟩ | ⟨g, cap, cur, rfl, hbg, hg, hc, _⟩
  · exact ⟨none, 0, by rw [h1], by rw [h1]; exact Nat.le_refl _⟩
  · exact ⟨_, cap, rfl, hc⟩
/-- A row of one's own is read as changes. -/
theorem rdP_of_own {W : World} {S : Nat → Prop} {base n c : Nat} {A : Option Addr} {l : List Ch} (h : OwnS W S base (.slice A n c) l) (hS : ∀ b, S b → b < W.heap.size) (hl : l.length = n) : RdP W (· < W.heap.size) A l := by
  by_cases h0 : l = []
  · exact .inl h0
  have hr0 := h
  obtain ⟨xs, hr, _⟩ := hr0
  rcases hr.2 with ⟨_, h1⟩ | ⟨g, cap, cur, e, _, hgb, hc, _⟩
  · exact absurd (List.eq_nil_of_length_eq_zero h1) h0
  · injection e with e1 e2 e3
    subst e1
    refine .inr ⟨_, rfl, (Array.getElem?_eq_some_iff.1 hgb).1, fun k x hx => ?_⟩
    obtain ⟨B, i', j, D, m', d, c0, c1, c2, c3, c4, c5, _, hp⟩ := h.elem hl hx
    have ea : (⟨g, 0, none⟩ : Addr).add (k * 6) = ⟨g, k * 6, none⟩ := by unfold Addr.add; split <;> simp_all
    exact ⟨by rw [ea]; exact c0, by rw [ea]; exact c1, by rw [ea]; exact c2, by rw [ea]; exact c3, B, i', j, D, m', d, by rw [ea]; exact c4, by rw [ea]; exact c5, hp.mono hS⟩

end Fl
end Go.Proofs.Ytdnkinajbebkoaa

set_option maxRecDepth 100000
namespace Go.Proofs.Ytdnkinajbebkoaa
open Go.RowKit Go.Shelf
set_option linter.unusedVariables false
set_option linter.unusedSimpArgs false
namespace Fl
open Tx Df Sq Hk Tr Pr Rg
attribute [local go_sem] Oper.semAt_some

/-- The cells of a change. -/
abbrev cellsV (x : Ch) (A : Option Addr) (n c : Nat) (B : Option Addr) (m d : Nat) : Array Value := #[.int .i64 x.k, strV x.nm, strV x.to, .int .i64 x.h.pos, .slice A n c, .slice B m d]
abbrev zeroV : Array Value := #[.int .i64 0, .string ⟨#[]⟩, .string ⟨#[]⟩, .int .i64 0, .slice none 0 0, .slice none 0 0]

/-- How through ends. -/
def ThruEnd (w : World) (R : Nat → Prop) (base : Nat) (v : Value) (o : Option (Ch × List Ch)) (e : Ending) (w' : World) : Prop :=
  (∀ z, o = some z → ∃ D m k D' m' k', e = .returned (.tuple #[prV z.1.k z.1.nm z.1.to z.1.h.pos D m k D' m' k', .bool true]) ∧ OwnS w' (But w' R) base v z.2 ∧ PG w' (But w' R) D m k D' m' k' z.1) ∧
  (o = none → e = .returned (.tuple #[.agg zeroV, .bool false])) ∧ w.grownBy w' v.ownBlock

/-- The values that are handed over, with the cells they come from. -/
theorem ab_EL {β : Type} {n : Nat} {A : Option Addr} {i : Nat} {vals : Array Value} {B : Nat} : Ab (β := β) Plain B (fun _ W => EL n A i vals W) := fun s W W' row hs hg hr => by
  have hk : KeepC (fun _ => True) W W' := keepC_plain hg (fun r e => (hr r e).2)
  obtain ⟨hi, a, v0, v1, v2, v3, v4, v5, h1, h2, c0, c1, c2, c3, c4, c5⟩ := hs
  exact ⟨hi, a, v0, v1, v2, v3, v4, v5, h1, h2, hk.cell trivial c0, hk.cell trivial c1, hk.cell trivial c2, hk.cell trivial c3, hk.cell trivial c4, hk.cell trivial c5⟩
theorem EL.row {X : World} {S : Nat → Prop} {base n c i : Nat} {A : Option Addr} {L : List Ch} {vals : Array Value} (h : EL n A i vals X) (hr : OwnS X S base (.slice A n c) L) (hL : L.length = n) :
    ∃ p g B r s B' r' s', A = some ⟨g, 0, none⟩ ∧ L[i]? = some p ∧ vals = #[.int .i64 (i : Int), .agg (cellsV p B r s B' r' s')] ∧ PG X S B r s B' r' s' p ∧ base ≤ g ∧ g < X.heap.size := by
  obtain ⟨hi, a, v0, v1, v2, v3, v4, v5, rfl, rfl, c0, c1, c2, c3, c4, c5⟩ := h
  have hr0 := hr
  obtain ⟨xs, hrow, _⟩ := hr0
  rcases hrow.2 with ⟨e, _⟩ | ⟨g, cap, cur, e, hbg, hgb, hc, _⟩
  · cases e
  · injection e with e1 e2 e3
    injection e1 with e1
    subst e1
    obtain ⟨p, hp⟩ : ∃ p, L[i]? = some p := ⟨_, List.getElem?_eq_getElem (by omega)⟩
    obtain ⟨B, r, s, B', r', s', g0, g1, g2, g3, g4, g5, _, hpg⟩ := hr.elem hL hp
    have ea : (⟨g, 0, none⟩ : Addr).add (i * 6) = ⟨g, i * 6, none⟩ := by unfold Addr.add; split <;> simp_all
    rw [ea] at c0 c1 c2 c3 c4 c5
    have e0 := Option.some.inj (c0.symm.trans g0)
    have e1 := Option.some.inj (c1.symm.trans g1)
    have e2 := Option.some.inj (c2.symm.trans g2)
    have e3 := Option.some.inj (c3.symm.trans g3)
    have e4 := Option.some.inj (c4.symm.trans g4)
    have e5 := Option.some.inj (c5.symm.trans g5)
    subst e0 e1 e2 e3 e4 e5
    exact ⟨p, g, B, r, s, B', r', s', rfl, hp, rfl, hpg, hbg, (Array.getElem?_eq_some_iff.1 hgb).1⟩
theorem vals_eq {i : Int} {v0 v1 v2 v3 v4 v5 : Value} {p : Ch} {B B' : Option Addr} {r s r' s' : Nat} (h : #[Value.int .i64 i, .agg #[v0, v1, v2, v3, v4, v5]] = #[.int .i64 i, .agg (cellsV p B r s B' r' s')]) :
    v0 = .int .i64 p.k ∧ v1 = strV p.nm ∧ v2 = strV p.to ∧ v3 = .int .i64 p.h.pos ∧ v4 = .slice B r s ∧ v5 = .slice B' r' s' := by
  simpa using h

/-- Between two rounds. -/
structure ThI (w : World) (R : Nat → Prop) (base : Nat) (v : Value) (l : List Ch) (q : Ch) (j : Nat) (x : Ch) (post : List Ch) (D : Option Addr) (m k : Nat) (D' : Option Addr) (m' k' : Nat) (W : World) : Prop where
  eq : one passP (l.drop j) q = some (x, post)
  lx : lightP x = true
  row : OwnS W (But W R) base v (l.take j ++ post)
  pg : PG W (But W R) D m k D' m' k' x
  bl : Blk W w.heap.size 43 #[v]
  bq : Blk W (w.heap.size + 1) 54 (cellsV x D m k D' m' k')
  br : Blk W (w.heap.size + 1 + 1) 54 zeroV
  bb : Blk W (w.heap.size + 1 + 1 + 1) 4 #[.bool false]
  fr : w.grownBy W v.ownBlock
def ThJ (w : World) (R : Nat → Prop) (base : Nat) (v : Value) (l : List Ch) (q : Ch) (n : Nat) (pre : List Nat) (W : World) : Prop :=
  ∃ x post D m k D' m' k', ThI w R base v l q (n - pre.length) x post D m k D' m' k' W
def ThX (w : World) (v : Value) (l : List Ch) (q : Ch) (c : Code) (_ : List Nat) (W : World) : Prop :=
  c = .ret ∧ one passP l q = none ∧ Blk W (w.heap.size + 1 + 1) 54 zeroV ∧ Blk W (w.heap.size + 1 + 1 + 1) 4 #[.bool false] ∧ w.grownBy W v.ownBlock
section
variable {w : World} {R : Nat → Prop} {base B n : Nat} {v : Value} {l : List Ch} {q : Ch}
theorem thJ_ab (hB : w.heap.size ≤ B) : Ab Plain B (ThJ w R base v l q n) := fun s W W' row hs hg hr => by
  obtain ⟨x, post, D, m, k, D', m', k', h⟩ := hs
  have bl : ∀ {b : Nat} {t : TypeId} {cs : Array Value}, Blk W b t cs → Blk W' b t cs := fun h => ab_blk (β := Unit) (B := B) (fun _ => _) () W W' row h hg hr
  exact ⟨x, post, D, m, k, D', m', k', h.eq, h.lx, ab_ownS (β := Unit) (B := B) (fun _ => _) () W W' row h.row hg hr, ab_pg (β := Unit) (B := B) (fun _ => _) () W W' row h.pg hg hr, bl h.bl, bl h.bq, bl h.br, bl h.bb, ab_grown (β := Unit) (B := B) hB () W W' row h.fr hg hr⟩
theorem thX_ab (hB : w.heap.size ≤ B) (c : Code) : Ab Plain B (ThX w v l q c) := fun s W W' row hs hg hr => by
  obtain ⟨h1, h2, h3, h4, h5⟩ := hs
  have bl : ∀ {b : Nat} {t : TypeId} {cs : Array Value}, Blk W b t cs → Blk W' b t cs := fun h => ab_blk (β := Unit) (B := B) (fun _ => _) () W W' row h hg hr
  exact ⟨h1, h2, bl h3, bl h4, ab_grown (β := Unit) (B := B) hB () W W' row h5 hg hr⟩
end

theorem ThI.mv {w W W' : World} {R : Nat → Prop} {base j m k m' k' : Nat} {v : Value} {l post : List Ch} {q x : Ch} {D D' : Option Addr} (h : ThI w R base v l q j x post D m k D' m' k' W) (hb : Below W.heap.size W W') : ThI w R base v l q j x post D m k D' m' k' W' :=
  ⟨h.eq, h.lx, (h.row.below hb).mono (but_up hb.size), (h.pg.to_ (fun b _ hl => hb.block b hl)).mono (but_up hb.size), h.bl.below hb h.bl.lt, h.bq.below hb h.bq.lt, h.br.below hb h.br.lt, h.bb.below hb h.bb.lt, grow_trans h.fr (below_gr_row hb) (fun i e => by cases e)⟩
theorem ThI.rowlen {w X : World} {R : Nat → Prop} {base j n m k m' k' : Nat} {v : Value} {l post : List Ch} {q x : Ch} {D D' : Option Addr} (h : ThI w R base v l q j x post D m k D' m' k' X) (hl : l.length = n) (hj : j ≤ n) : (l.take j ++ post).length = n := by
  have := one_len passP h.eq
  rw [List.length_drop] at this
  rw [List.length_append, List.length_take, this]; omega
theorem mid_at {α : Type} {l post : List α} {k : Nat} {p : α} (hk : k < l.length) (h : (l.take (k + 1) ++ post)[k]? = some p) : l[k]? = some p := by
  rw [List.getElem?_append_left (by rw [List.length_take]; omega), List.getElem?_take, if_pos (by omega)] at h
  exact h

theorem keepsFrom_below {W W' : World} (B : Nat) (h : Below W.heap.size W W') : KeepsFrom B W W' := ⟨h.size, fun k o _ hk _ => (h.block k (Array.getElem?_eq_some_iff.1 hk).1).trans hk⟩

/-- What through needs of the memory that it is handed. -/
structure ThN (w : World) (R : Nat → Prop) (base n c : Nat) (A : Option Addr) (l : List Ch) (D : Option Addr) (m k : Nat) (D' : Option Addr) (m' k' : Nat) (q : Ch) : Prop where
  len : l.length = n
  lt : Lt l
  lq : lightP q = true
  r : ∀ g, (Value.slice A n c).ownBlock = some g → R g
  rl : ∀ b, R b → b < w.heap.size
  row : OwnS w (But w R) base (.slice A n c) l
  pg : PG w (But w R) D m k D' m' k' q

/-- R, and the boxes that through makes. -/
def RB (w : World) (R : Nat → Prop) : Nat → Prop := fun b => R b ∨ (w.heap.size ≤ b ∧ b < w.heap.size + 4)
section
variable {w W W' : World} {r : Option Nat} {b : Nat}
theorem grow_set (h : w.grownBy W r) (hb : w.heap.size ≤ b) (j : Nat) (v : Value) : w.grownBy (W.setCell ⟨b, j, none⟩ v) r := grow_trans h (grownBy_set W b j v) (fun i e => .inl (by injection e with e; omega))
theorem grow_own (h : w.grownBy W (some b)) (j : Nat) (v : Value) : w.grownBy (W.setCell ⟨b, j, none⟩ v) (some b) := grow_trans h (grownBy_set W b j v) (fun i e => .inr (by injection e with e; rw [e]))
theorem grow_below (h : w.grownBy W r) (hb : Below W.heap.size W W') : w.grownBy W' r := grow_trans h (below_gr_row hb) (fun i e => by cases e)
theorem grow_set6 (h : w.grownBy W r) (hb : w.heap.size ≤ b) (v0 v1 v2 v3 v4 v5 : Value) : w.grownBy (World.setCell (World.setCell (World.setCell (World.setCell (World.setCell (World.setCell W ⟨b, 0, none⟩ (v0)) ⟨b, 1, none⟩ (v1)) ⟨b, 2, none⟩ (v2)) ⟨b, 3, none⟩ (v3)) ⟨b, 4, none⟩ (v4)) ⟨b, 5, none⟩ (v5)) r :=
  grow_set (grow_set (grow_set (grow_set (grow_set (grow_set h hb 0 v0) hb 1 v1) hb 2 v2) hb 3 v3) hb 4 v4) hb 5 v5
theorem grow_own6 (h : w.grownBy W (some b)) (k : Nat) (v0 v1 v2 v3 v4 v5 : Value) : w.grownBy (World.setCell (World.setCell (World.setCell (World.setCell (World.setCell (World.setCell W ⟨b, k * 6, none⟩ (v0)) ⟨b, k * 6 + 1, none⟩ (v1)) ⟨b, k * 6 + 2, none⟩ (v2)) ⟨b, k * 6 + 3, none⟩ (v3)) ⟨b, k * 6 + 4, none⟩ (v4)) ⟨b, k * 6 + 5, none⟩ (v5)) (some b) :=
  grow_own (grow_own (grow_own (grow_own (grow_own (grow_own h (k * 6) v0) (k * 6 + 1) v1) (k * 6 + 2) v2) (k * 6 + 3) v3) (k * 6 + 4) v4) (k * 6 + 5) v5
theorem keeps_set6 (W : World) (B b : Nat) (v0 v1 v2 v3 v4 v5 : Value) : KeepsFrom B W (World.setCell (World.setCell (World.setCell (World.setCell (World.setCell (World.setCell W ⟨b, 0, none⟩ (v0)) ⟨b, 1, none⟩ (v1)) ⟨b, 2, none⟩ (v2)) ⟨b, 3, none⟩ (v3)) ⟨b, 4, none⟩ (v4)) ⟨b, 5, none⟩ (v5)) :=
  ((((((KeepsOthers.setCell _ _ _).from B).trans ((KeepsOthers.setCell _ _ _).from B)).trans ((KeepsOthers.setCell _ _ _).from B)).trans ((KeepsOthers.setCell _ _ _).from B)).trans ((KeepsOthers.setCell _ _ _).from B)).trans ((KeepsOthers.setCell _ _ _).from B)
theorem keeps_row6 (W : World) (B b k : Nat) (v0 v1 v2 v3 v4 v5 : Value) : KeepsFrom B W (World.setCell (World.setCell (World.setCell (World.setCell (World.setCell (World.setCell W ⟨b, k * 6, none⟩ (v0)) ⟨b, k * 6 + 1, none⟩ (v1)) ⟨b, k * 6 + 2, none⟩ (v2)) ⟨b, k * 6 + 3, none⟩ (v3)) ⟨b, k * 6 + 4, none⟩ (v4)) ⟨b, k * 6 + 5, none⟩ (v5)) :=
  ((((((KeepsOthers.setCell _ _ _).from B).trans ((KeepsOthers.setCell _ _ _).from B)).trans ((KeepsOthers.setCell _ _ _).from B)).trans ((KeepsOthers.setCell _ _ _).from B)).trans ((KeepsOthers.setCell _ _ _).from B)).trans ((KeepsOthers.setCell _ _ _).from B)
end

/-- A round that tells that the change can't pass. -/
theorem thru_no {w X w2 : World} {R : Nat → Prop} {base i : Nat} {v : Value} {l : List Ch} {q x p : Ch} {post : List Ch} {D1 D2 : Option Addr} {m1 k1 m2 k2 B : Nat} {pre : List Nat} (hI : ThI w R base v l q (i + 1) x post D1 m1 k1 D2 m2 k2 X) (hb2 : Below X.heap.size X w2) (hx : l[i]? = some p) (hn : passP p x = none) (o o' : Obj) :
    KeepsFrom B X ((((World.setCell (World.setCell (World.setCell (World.setCell (World.setCell (World.setCell w2 ⟨w.heap.size + 1 + 1, 0, none⟩ (.int .i64 0)) ⟨w.heap.size + 1 + 1, 1, none⟩ (.string ⟨#[]⟩)) ⟨w.heap.size + 1 + 1, 2, none⟩ (.string ⟨#[]⟩)) ⟨w.heap.size + 1 + 1, 3, none⟩ (.int .i64 0)) ⟨w.heap.size + 1 + 1, 4, none⟩ (.slice none 0 0)) ⟨w.heap.size + 1 + 1, 5, none⟩ (.slice none 0 0)).setCell ⟨w.heap.size + 1 + 1 + 1, 0, none⟩ (.bool false)).alloc o).alloc o') ∧
    ThX w v l q .ret pre ((((World.setCell (World.setCell (World.setCell (World.setCell (World.setCell (World.setCell w2 ⟨w.heap.size + 1 + 1, 0, none⟩ (.int .i64 0)) ⟨w.heap.size + 1 + 1, 1, none⟩ (.string ⟨#[]⟩)) ⟨w.heap.size + 1 + 1, 2, none⟩ (.string ⟨#[]⟩)) ⟨w.heap.size + 1 + 1, 3, none⟩ (.int .i64 0)) ⟨w.heap.size + 1 + 1, 4, none⟩ (.slice none 0 0)) ⟨w.heap.size + 1 + 1, 5, none⟩ (.slice none 0 0)).setCell ⟨w.heap.size + 1 + 1 + 1, 0, none⟩ (.bool false)).alloc o).alloc o') := by
  have hbr := hI.br.below hb2 hI.br.lt
  have hbb := hI.bb.below hb2 hI.bb.lt
  refine ⟨(((((keepsFrom_below B hb2).trans (keeps_set6 w2 B (w.heap.size + 1 + 1) _ _ _ _ _ _)).trans ((KeepsOthers.setCell _ _ _).from B)).trans ((KeepsOthers.alloc _ o).from B)).trans ((KeepsOthers.alloc _ o').from B)), rfl, one_step_none passP hx hI.eq hn, ?_, ?_, ?_⟩
  · exact (((blk6 hbr (.int .i64 0) (.string ⟨#[]⟩) (.string ⟨#[]⟩) (.int .i64 0) (.slice none 0 0) (.slice none 0 0)).set_ne (by omega) 0 (.bool false)).alloc o).alloc o'
  · exact (((blk_set6 hbb (g := w.heap.size + 1 + 1) (by omega) (.int .i64 0) (.string ⟨#[]⟩) (.string ⟨#[]⟩) (.int .i64 0) (.slice none 0 0) (.slice none 0 0)).set 0 (.bool false)).alloc o).alloc o'
  · exact grow_trans (grow_trans (grow_set (grow_set6 (grow_below hI.fr hb2) (by omega) _ _ _ _ _ _) (by omega) 0 _) (World.grownBy_alloc _ o none) (by simp)) (World.grownBy_alloc _ o' none) (by simp)

/-- A round in which both pass: first the change is stored, then the one of the list. -/
theorem thru_mid {w X w2 w4 : World} {R : Nat → Prop} {base i g n c : Nat} {l : List Ch} {q x x1 y1 : Ch} {post : List Ch} {D1 D2 : Option Addr} {m1 k1 m2 k2 : Nat} {E1 E2 E3 E4 : Option Addr} {n1 c1 n2 c2 n3 c3 n4 c4 : Nat}
    (hI : ThI w (RB w R) base (.slice (some ⟨g, 0, none⟩) n c) l q (i + 1) x post D1 m1 k1 D2 m2 k2 X) (hR : R g) (hrl : ∀ b, R b → b < w.heap.size) (hb2 : Below X.heap.size X w2) (hb4 : Below w2.heap.size w2 w4)
    (hv : PV w2 w2.heap.size E1 n1 c1 E2 n2 c2 x1) (gv : PV w2 w2.heap.size E3 n3 c3 E4 n4 c4 y1) (hh : Hi X.heap.size E1 ∧ Hi X.heap.size E2 ∧ Hi X.heap.size E3 ∧ Hi X.heap.size E4) :
    let w6 := (World.setCell (World.setCell (World.setCell (World.setCell (World.setCell (World.setCell w4 ⟨w.heap.size + 1, 0, none⟩ (.int .i64 x1.k)) ⟨w.heap.size + 1, 1, none⟩ (strV x1.nm)) ⟨w.heap.size + 1, 2, none⟩ (strV x1.to)) ⟨w.heap.size + 1, 3, none⟩ (.int .i64 x1.h.pos)) ⟨w.heap.size + 1, 4, none⟩ (.slice E1 n1 c1)) ⟨w.heap.size + 1, 5, none⟩ (.slice E2 n2 c2))
    OwnS w6 (But w6 (RB w R)) base (.slice (some ⟨g, 0, none⟩) n c) (l.take (i + 1) ++ post) ∧ PG w6 (But w6 (RB w R)) E1 n1 c1 E2 n2 c2 x1 ∧ PG w6 (But w6 (RB w R)) E3 n3 c3 E4 n4 c4 y1 ∧
    Blk w6 w.heap.size 43 #[.slice (some ⟨g, 0, none⟩) n c] ∧ Blk w6 (w.heap.size + 1) 54 (cellsV x1 E1 n1 c1 E2 n2 c2) ∧ Blk w6 (w.heap.size + 1 + 1) 54 zeroV ∧ Blk w6 (w.heap.size + 1 + 1 + 1) 4 #[.bool false] ∧ w.grownBy w6 (some g) ∧
    (∀ B, KeepsFrom B X w6) ∧ (∀ Bs v, w.heap.size + 1 < Bs → Boxed X Bs 43 v → Boxed w6 Bs 43 v) := by
  intro w6
  have hX : w.heap.size + 4 ≤ X.heap.size := by have := hI.bb.lt; omega
  have hb : Below X.heap.size X w4 := hb2.trans (hb4.mono hb2.size)
  have hs4 : w4.heap.size = w6.heap.size := by simp [w6]
  have h2 : w2.heap.size ≤ w4.heap.size := hb4.size
  have hS : ∀ b, (X.heap.size ≤ b ∧ b < w2.heap.size) → But w4 (RB w R) b := fun b h => ⟨by omega, fun e => e.elim (fun e => by have := hrl b e; omega) (fun e => by omega)⟩
  have hq : RB w R (w.heap.size + 1) := .inr ⟨by omega, by omega⟩
  have hne : ∀ b, But w4 (RB w R) b → b ≠ w.heap.size + 1 := fun b h e => h.2 (e ▸ hq)
  have hgl := hrl g hR
  have al := (alike_set6 w4 (w.heap.size + 1) (.int .i64 x1.k) (strV x1.nm) (strV x1.to) (.int .i64 x1.h.pos) (.slice E1 n1 c1) (.slice E2 n2 c2)).mono hne
  have up := but_up (R := RB w R) (Nat.le_of_eq hs4)
  have l0 := hI.bl.lt; have l1 := hI.bq.lt; have l2 := hI.br.lt; have l3 := hI.bb.lt
  refine ⟨?_, ?_, ?_, ?_, ?_, ?_, ?_, ?_, ?_, ?_⟩
  · exact (((hI.row.below hb).mono (but_up hb.size)).set6 (b := w.heap.size + 1) (fun e => by injection e with e; have e : w.heap.size + 1 = g := e; omega) (fun h => hne _ h rfl) _ _ _ _ _ _).mono up
  · exact (((((pg_hi hv hh.1 hh.2.1).to_ (fun b h hl => hb4.block b hl)).mono hS).to_ al).mono up)
  · exact (((((pg_hi gv hh.2.2.1 hh.2.2.2).to_ (fun b h hl => hb4.block b hl)).mono hS).to_ al).mono up)
  · exact blk_set6 (hI.bl.below hb l0) (by omega) _ _ _ _ _ _
  · exact blk6 (hI.bq.below hb l1) _ _ _ _ _ _
  · exact blk_set6 (hI.br.below hb l2) (by omega) _ _ _ _ _ _
  · exact blk_set6 (hI.bb.below hb l3) (by omega) _ _ _ _ _ _
  · exact grow_set6 (grow_below hI.fr hb) (by omega) _ _ _ _ _ _
  · exact fun B => (keepsFrom_below B hb).trans (keeps_set6 _ _ _ _ _ _ _ _ _)
  · exact fun Bs v hB hv => blk_set6 (Blk.below (show Blk X Bs 43 #[v] from hv) hb hv.lt) (by omega) _ _ _ _ _ _

theorem thru_fin {w X w6 : World} {R : Nat → Prop} {base i g n c : Nat} {l : List Ch} {q x p x1 y1 : Ch} {post : List Ch} {D1 D2 : Option Addr} {m1 k1 m2 k2 : Nat} {E1 E2 E3 E4 : Option Addr} {n1 c1 n2 c2 n3 c3 n4 c4 : Nat}
    (hI : ThI w (RB w R) base (.slice (some ⟨g, 0, none⟩) n c) l q (i + 1) x post D1 m1 k1 D2 m2 k2 X) (hR : R g) (hgl : g < w.heap.size) (hx : l[i]? = some p) (hlp : lightP p = true) (hL : (l.take (i + 1) ++ post).length = n) (hs : passP p x = some (x1, y1))
    (h1 : OwnS w6 (But w6 (RB w R)) base (.slice (some ⟨g, 0, none⟩) n c) (l.take (i + 1) ++ post)) (h2 : PG w6 (But w6 (RB w R)) E1 n1 c1 E2 n2 c2 x1) (h3 : PG w6 (But w6 (RB w R)) E3 n3 c3 E4 n4 c4 y1)
    (h4 : Blk w6 w.heap.size 43 #[.slice (some ⟨g, 0, none⟩) n c]) (h5 : Blk w6 (w.heap.size + 1) 54 (cellsV x1 E1 n1 c1 E2 n2 c2)) (h6 : Blk w6 (w.heap.size + 1 + 1) 54 zeroV) (h7 : Blk w6 (w.heap.size + 1 + 1 + 1) 4 #[.bool false]) (h8 : w.grownBy w6 (some g)) :
    let w9 := (World.setCell (World.setCell (World.setCell (World.setCell (World.setCell (World.setCell w6 ⟨g, i * 6, none⟩ (.int .i64 y1.k)) ⟨g, i * 6 + 1, none⟩ (strV y1.nm)) ⟨g, i * 6 + 2, none⟩ (strV y1.to)) ⟨g, i * 6 + 3, none⟩ (.int .i64 y1.h.pos)) ⟨g, i * 6 + 4, none⟩ (.slice E3 n3 c3)) ⟨g, i * 6 + 5, none⟩ (.slice E4 n4 c4))
    ThI w (RB w R) base (.slice (some ⟨g, 0, none⟩) n c) l q i x1 (y1 :: post) E1 n1 c1 E2 n2 c2 w9 ∧ (∀ B, KeepsFrom B w6 w9) ∧ (∀ Bs v, Bs ≠ g → Boxed w6 Bs 43 v → Boxed w9 Bs 43 v) ∧ Cells6 w9 (some ⟨g, 0, none⟩) n := by
  intro w9
  have hs9 : w6.heap.size = w9.heap.size := by simp [w9]
  have hne : ∀ b, But w6 (RB w R) b → b ≠ g := fun b h e => h.2 (.inl (e ▸ hR))
  have up := but_up (R := RB w R) (Nat.le_of_eq hs9)
  have hrow : OwnS w9 (But w9 (RB w R)) base (.slice (some ⟨g, 0, none⟩) n c) (l.take i ++ y1 :: post) := by
    have := (h1.store (k := i) hL (fun h => hne _ h rfl) h3).mono up
    rw [set_mid hx] at this
    exact this
  refine ⟨⟨one_step passP hx hI.eq hs, (passP_lt hs hlp hI.lx).1, hrow, ?_, ?_, ?_, ?_, ?_, ?_⟩, fun B => keeps_row6 _ _ _ _ _ _ _ _ _ _, fun Bs v hB hv => ?_, cells6_own hrow ?_⟩
  · exact (h2.to_ ((alike_row6 w6 g i _ _ _ _ _ _).mono hne)).mono up
  · exact blk_row6 h4 (by omega) i _ _ _ _ _ _
  · exact blk_row6 h5 (by omega) i _ _ _ _ _ _
  · exact blk_row6 h6 (by omega) i _ _ _ _ _ _
  · exact blk_row6 h7 (by omega) i _ _ _ _ _ _
  · exact grow_own6 h8 i _ _ _ _ _ _
  · exact blk_row6 (show Blk w6 Bs 43 #[v] from hv) hB i _ _ _ _ _ _
  · rw [← hL, ← set_mid (y := y1) hx, List.length_set]

theorem thru_put {w W : World} {r : Option Nat} {E : Nat} (hE : w.heap.size + 4 ≤ E) (hK : W.heap[E]? = some (.deferred (some []))) (hg : w.grownBy W r) : w.grownBy (W.putObj E (.deferred none)) r ∧ (∀ b t cs, b < w.heap.size + 4 → Blk W b t cs → Blk (W.putObj E (.deferred none)) b t cs) ∧
    (∀ S base v l, OwnS W S base v l → OwnS (W.putObj E (.deferred none)) S base v l) ∧ (∀ S A n c B m d x, PG W S A n c B m d x → PG (W.putObj E (.deferred none)) S A n c B m d x) ∧ W.heap.size = (W.putObj E (.deferred none)).heap.size := by
  have hp := grownBy_putObj' W E (.deferred none)
  have hr : ∀ r, some E = some r → ∃ o : Obj, W.heap[r]? = some o ∧ o.isCells = false := fun r e => by injection e with e; subst e; exact ⟨_, hK, rfl⟩
  exact ⟨grow_trans hg hp (fun j e => .inl (by injection e with e; omega)), fun b t cs hb h => h.gr hp (fun e => by injection e with e; omega), fun S base v l h => h.plain hp hr, fun S A n c B m d x h => h.kc (keepC_plain hp hr), by simp⟩

theorem thru_done {w W : World} {R : Nat → Prop} {base n c E : Nat} {A : Option Addr} {l : List Ch} {q x : Ch} {post : List Ch} {D1 D2 : Option Addr} {m1 k1 m2 k2 : Nat}
    (hI : ThI w (RB w R) base (.slice A n c) l q 0 x post D1 m1 k1 D2 m2 k2 W) (hr : ∀ g, (Value.slice A n c).ownBlock = some g → R g) (hrl : ∀ b, R b → b < w.heap.size) (hE : w.heap.size + 4 ≤ E) (hK : W.heap[E]? = some (.deferred (some []))) :
    let W9 := (World.setCell (World.setCell (World.setCell (World.setCell (World.setCell (World.setCell W ⟨w.heap.size + 1 + 1, 0, none⟩ (.int .i64 x.k)) ⟨w.heap.size + 1 + 1, 1, none⟩ (strV x.nm)) ⟨w.heap.size + 1 + 1, 2, none⟩ (strV x.to)) ⟨w.heap.size + 1 + 1, 3, none⟩ (.int .i64 x.h.pos)) ⟨w.heap.size + 1 + 1, 4, none⟩ (.slice D1 m1 k1)) ⟨w.heap.size + 1 + 1, 5, none⟩ (.slice D2 m2 k2)).setCell ⟨w.heap.size + 1 + 1 + 1, 0, none⟩ (.bool true)
    W9.heap[E]? = some (.deferred (some [])) ∧ Blk (W9.putObj E (.deferred none)) (w.heap.size + 1 + 1) 54 (cellsV x D1 m1 k1 D2 m2 k2) ∧ Blk (W9.putObj E (.deferred none)) (w.heap.size + 1 + 1 + 1) 4 #[.bool true] ∧
      OwnS (W9.putObj E (.deferred none)) (But (W9.putObj E (.deferred none)) R) base (.slice A n c) post ∧ PG (W9.putObj E (.deferred none)) (But (W9.putObj E (.deferred none)) R) D1 m1 k1 D2 m2 k2 x ∧ w.grownBy (W9.putObj E (.deferred none)) (Value.slice A n c).ownBlock := by
  intro W9
  have hsz : W.heap.size = W9.heap.size := by simp [W9]
  have hne : ∀ b, But W (RB w R) b → b ≠ w.heap.size + 1 + 1 := fun b h e => h.2 (.inr (by omega))
  have hne' : ∀ b, But W (RB w R) b → b ≠ w.heap.size + 1 + 1 + 1 := fun b h e => h.2 (.inr (by omega))
  have hv : ∀ b, w.heap.size ≤ b → some b ≠ (Value.slice A n c).ownBlock := fun b hb e => by have := hrl b (hr b e.symm); omega
  have k9 : W9.heap[E]? = some (.deferred (some [])) := ((keeps_set6 W E (w.heap.size + 1 + 1) _ _ _ _ _ _).trans ((KeepsOthers.setCell _ _ _).from E)).same E _ (Nat.le_refl _) hK rfl
  have g9 : w.grownBy W9 (Value.slice A n c).ownBlock := grow_set (grow_set6 hI.fr (by omega) _ _ _ _ _ _) (by omega) 0 _
  obtain ⟨p1, p2, p3, p4, p5⟩ := thru_put hE k9 g9
  have up : ∀ b, But W (RB w R) b → But (W9.putObj E (.deferred none)) R b := fun b h => ⟨by have := h.1; omega, fun e => h.2 (.inl e)⟩
  have hrow := hI.row
  rw [List.take_zero, List.nil_append] at hrow
  refine ⟨k9, p2 _ _ _ (by omega) ?_, p2 _ _ _ (by omega) ?_, (p3 _ _ _ _ ?_).mono up, (p4 _ _ _ _ _ _ _ _ ?_).mono up, p1⟩
  · exact (blk6 hI.br _ _ _ _ _ _).set_ne (by omega) 0 _
  · exact (blk_set6 hI.bb (g := w.heap.size + 1 + 1) (by omega) _ _ _ _ _ _).set 0 (.bool true)
  · exact (hrow.set6 (hv _ (by omega)) (fun h => hne _ h rfl) _ _ _ _ _ _).set (hv _ (by omega)) (fun h => hne' _ h rfl) 0 _
  · exact (hI.pg.to_ ((alike_set6 W _ _ _ _ _ _ _).mono hne)).to_ ((alike_set _ _ _ _).mono hne')

/-- The memory in which the range begins. -/
theorem thru_start {w : World} {R : Nat → Prop} {base n c : Nat} {A : Option Addr} {l : List Ch} {D : Option Addr} {m k : Nat} {D' : Option Addr} {m' k' : Nat} {q : Ch} (h : ThN w R base n c A l D m k D' m' k' q) :
    let w5 := ((((w.alloc (.cells #[.slice A n c] 43)).alloc (.cells (cellsV q D m k D' m' k') 54)).alloc (.cells zeroV 54)).alloc (.cells #[.bool false] 4)).alloc (.cells #[.slice A n c] 43)
    ThJ w (RB w R) base (.slice A n c) l q n [] w5 ∧ Boxed w5 (w.heap.size + 1 + 1 + 1 + 1) 43 (.slice A n c) ∧ w5.heap.size = w.heap.size + 5 ∧ Cells6 w5 A n := by
  intro w5
  have hw : Below w.heap.size w w5 := (((((Below.refl _ _).alloc (Nat.le_refl _) _).alloc (by simp) _).alloc (by simp; omega) _).alloc (by simp; omega) _).alloc (by simp; omega) _
  have hsz : w5.heap.size = w.heap.size + 5 := by simp [w5]
  have hg : w.grownBy w5 none := grow_trans (grow_trans (grow_trans (grow_trans (World.grownBy_alloc w _ none) (World.grownBy_alloc _ _ none) (by simp)) (World.grownBy_alloc _ _ none) (by simp)) (World.grownBy_alloc _ _ none) (by simp)) (World.grownBy_alloc _ _ none) (by simp)
  have b0 := ((((Blk.new w 43 #[.slice A n c]).alloc (.cells (cellsV q D m k D' m' k') 54)).alloc (.cells zeroV 54)).alloc (.cells #[.bool false] 4)).alloc (.cells #[.slice A n c] 43)
  have b1 := (((Blk.new (w.alloc (.cells #[.slice A n c] 43)) 54 (cellsV q D m k D' m' k')).alloc (.cells zeroV 54)).alloc (.cells #[.bool false] 4)).alloc (.cells #[.slice A n c] 43)
  have b2 := ((Blk.new ((w.alloc (.cells #[.slice A n c] 43)).alloc (.cells (cellsV q D m k D' m' k') 54)) 54 zeroV).alloc (.cells #[.bool false] 4)).alloc (.cells #[.slice A n c] 43)
  have b3 := (Blk.new (((w.alloc (.cells #[.slice A n c] 43)).alloc (.cells (cellsV q D m k D' m' k') 54)).alloc (.cells zeroV 54)) 4 #[.bool false]).alloc (.cells #[.slice A n c] 43)
  have b4 := Boxed.new ((((w.alloc (.cells #[.slice A n c] 43)).alloc (.cells (cellsV q D m k D' m' k') 54)).alloc (.cells zeroV 54)).alloc (.cells #[.bool false] 4)) 43 (.slice A n c)
  simp only [World.size_alloc] at b1 b2 b3 b4
  have hs : ∀ b, But w R b → But w5 (RB w R) b := fun b hb => ⟨by have := hb.1; omega, fun e => e.elim hb.2 fun e => by have := hb.1; omega⟩
  have hrow : OwnS w5 (But w5 (RB w R)) base (.slice A n c) l := (h.row.below hw).mono hs
  refine ⟨⟨q, [], D, m, k, D', m', k', ?_, h.lq, ?_, (h.pg.to_ (fun b hb hl => hw.block b hl)).mono hs, b0, b1, b2, b3, ?_⟩, b4, hsz, cells6_own hrow h.len⟩
  · rw [List.length_nil, Nat.sub_zero, List.drop_of_length_le (by rw [h.len]; exact Nat.le_refl _)]; rfl
  · rw [List.length_nil, Nat.sub_zero, List.take_of_length_le (by rw [h.len]; exact Nat.le_refl _), List.append_nil]; exact hrow
  · exact ⟨hg.os, hg.tape, hg.output, hg.size, fun k hk _ => hg.block k hk (by simp)⟩

set_option maxRecDepth 100000 in
set_option maxHeartbeats 4000000 in
theorem throughL (R : Nat → Prop) (base n c : Nat) (A : Option Addr) (l : List Ch) (D : Option Addr) (m k : Nat) (D' : Option Addr) (m' k' : Nat) (q : Ch) (w : World) (hle : n ≤ 1000) (h : ThN w R base n c A l D m k D' m' k' q) :
    Calls Try.prog 65 #[.slice A n c, prV q.k q.nm q.to q.h.pos D m k D' m' k'] w (ThruEnd w R base (.slice A n c) (one passP l q)) := by
  have H := Lib.hid h
  clear h
  refine (callsIn_wide (n := 4)).1 ?_
  refine callsIn_of_wp_marks Try.func65 rfl trivial ?_ rfl
  simp only [Try.ntmps65, List.size_toArray, List.length_cons, List.length_nil, Nat.reduceAdd, Nat.reduceSub, Array.replicate_succ, Array.replicate_zero, List.push_toArray, List.append_toArray, List.nil_append, List.cons_append]
  gi_wp2_with fail
  refine ⟨trivial, ?_⟩
  refine (backL_in 3 A n c _).mono ?_
  rintro e w' ⟨rfl, rfl⟩
  gi_wp2
  have hst := thru_start H.out
  dsimp only [cellsV, zeroV] at hst
  generalize (((((w.alloc (.cells #[.slice A n c] 43)).alloc (.cells #[.int .i64 q.k, strV q.nm, strV q.to, .int .i64 q.h.pos, .slice D m k, .slice D' m' k'] 54)).alloc (.cells #[.int .i64 0, .string ⟨#[]⟩, .string ⟨#[]⟩, .int .i64 0, .slice none 0 0, .slice none 0 0] 54)).alloc (.cells #[.bool false] 4)).alloc (.cells #[.slice A n c] 43)) = w5 at hst ⊢
  obtain ⟨hst, hbs, hsz, hc6⟩ := hst
  refine range_law (n := 4) (gf := 85) (lb := #[.pointer (some ⟨w.heap.size + 1 + 1 + 1 + 1, 0, none⟩)]) rfl (enters_of Try.func85 (by kernel_rfl) rfl) (Free := Plain) (fun _ h => h)
    (backL_gives 3 (w.heap.size + 1 + 1 + 1 + 1) c n A (by omega) w5 hbs hc6) kpL_t (kpL_b (by rw [hsz]; omega)) (fun x vals W h => by obtain ⟨_, _, _, _, _, _, _, _, _, rfl, _⟩ := h; rfl)
    (ThJ w (RB w R) base (.slice A n c) l q n) (ThX w (.slice A n c) l q) (thJ_ab (by rw [hsz]; omega)) (thX_ab (by rw [hsz]; omega)) hst
    (fun i a' X => ∃ b v0 v1 v2 v3 v4 v5, a' = { tmps := #[.slice A n c, prV q.k q.nm q.to q.h.pos D m k D' m' k', .pointer (some ⟨w.heap.size, 0, none⟩), .pointer (some ⟨w.heap.size + 1, 0, none⟩), .pointer (some ⟨w.heap.size + 1 + 1, 0, none⟩), .pointer (some ⟨w.heap.size + 1 + 1 + 1, 0, none⟩), .int .i64 (i : Int), .pointer (some ⟨b, 0, none⟩), undef, undef, undef, .slice A n c, .func (.func 85) #[] #[.pointer (some ⟨w.heap.size + 1 + 1 + 1 + 1, 0, none⟩)], .int .i64 (i : Int), .agg #[v0, v1, v2, v3, v4, v5], undef, undef, undef, undef, undef, undef, undef, undef, undef, undef, undef, undef, undef, undef, undef, undef], defers := [] } ∧ EL n A i #[.int .i64 (i : Int), .agg #[v0, v1, v2, v3, v4, v5]] X ∧ Blk X b 54 #[v0, v1, v2, v3, v4, v5])
    (fun i a' => ab_ex fun b => ab_ex fun v0 => ab_ex fun v1 => ab_ex fun v2 => ab_ex fun v3 => ab_ex fun v4 => ab_ex fun v5 => Ab.and (ab_pure _ _ _) (Ab.and ab_EL (ab_blk fun _ => _))) ?assign ?body ?done ?stop
  case assign =>
    rintro y pre i vals X K hi hEL hK
    obtain ⟨x, post, D1, m1, k1, D2, m2, k2, hI⟩ := id hi
    obtain ⟨p, g, B, r, s, B', r', s', rfl, hp, rfl, hpg, hbg, hgl⟩ := hEL.row hI.row (hI.rowlen H.out.len (by omega))
    clear hI hp hpg hbg hgl
    gi_wp2
    exact hK _ _ ((KeepsOthers.alloc X _).from _) (kpL_new (World.grownBy_alloc X _ none)) ((thJ_ab (Nat.le_refl _)).alloc _ hi) ⟨_, _, _, _, _, _, _, rfl, ab_EL.alloc (s := ()) (B := 0) _ hEL, Blk.new _ _ _⟩
  case body =>
    rintro y pre pst i a' X hfull hI ⟨b, v0, v1, v2, v3, v4, v5, rfl, hEL, hb⟩
    have hi := dn_split hfull
    clear hfull
    obtain ⟨x, post, D1, m1, k1, D2, m2, k2, hI⟩ := hI
    rw [show n - pre.length = i + 1 by omega] at hI
    have hL := hI.rowlen H.out.len (by omega)
    obtain ⟨p, g, B, r, s, B', r', s', rfl, hp, hv, hpg, hbg, hgl⟩ := hEL.row hI.row hL
    obtain ⟨rfl, rfl, rfl, rfl, rfl, rfl⟩ := vals_eq hv
    have hpl := mid_at (by rw [H.out.len]; omega) hp
    have HLP := Lib.hid (H.out.lt p (List.mem_of_getElem? hpl))
    have HPL := Lib.hid hpl; have HI := Lib.hid hI; have HL := Lib.hid hL; have HPG := Lib.hid hpg; have HG := Lib.hid (And.intro hbg hgl); have HB := Lib.hid hb
    clear hpl hL hpg hp hv hEL hbg
    obtain ⟨x1, y1, ho⟩ : ∃ x1 y1, outP (passP p x) = (x1, y1) := ⟨_, _, rfl⟩
    obtain ⟨bo, hbo⟩ : ∃ bo, (passP p x).isSome = bo := ⟨_, rfl⟩
    have HO := Lib.hid ho; have HBO := Lib.hid hbo
    clear ho hbo
    have PC := Lib.hid (PassPH B r s B' r' s' D1 m1 k1 D2 m2 k2 p x x1 y1 X bo (lt_len HPG.out HLP.out) (lt_len HI.out.pg HI.out.lx) (HPG.out.mono but_lt).pv (HI.out.pg.mono but_lt).pv HO.out HBO.out)
    have x0 := hb.cell 0 rfl; have x1' := hb.cell 1 rfl; have x2 := hb.cell 2 rfl; have x3 := hb.cell 3 rfl; have x4 := hb.cell 4 rfl; have x5 := hb.cell 5 rfl
    have hbq := hI.bq
    have q0 := hbq.cell 0 (u := .int .i64 x.k) rfl; have q1 := hbq.cell 1 (u := strV x.nm) rfl; have q2 := hbq.cell 2 (u := strV x.to) rfl; have q3 := hbq.cell 3 (u := .int .i64 x.h.pos) rfl; have q4 := hbq.cell 4 (u := .slice D1 m1 k1) rfl; have q5 := hbq.cell 5 (u := .slice D2 m2 k2) rfl
    clear hI hb hbq
    gi_wp2_with fail
    refine ⟨trivial, CallsIn.inRound y (callsIn_wide.2 (PC.out.mono ?_))⟩
    rintro e w2 ⟨E1, n1, c1, E2, n2, c2, E3, n3, c3, E4, n4, c4, rfl, pv1, pv2, hl1, hl2, hh, hb2⟩
    clear x0 x1' x2 x3 x4 x5 q0 q1 q2 q3 q4 q5 PC
    have hbl := HI.out.bl; have hbq := HI.out.bq; have hbr := HI.out.br; have hbb := HI.out.bb
    replace hbl := hbl.below hb2 hbl.lt; replace hbq := hbq.below hb2 hbq.lt; replace hbr := hbr.below hb2 hbr.lt; replace hbb := hbb.below hb2 hbb.lt
    have HBL := Lib.hid hbl; have HBQ := Lib.hid hbq; have HBR := Lib.hid hbr; have HBB := Lib.hid hbb; have HB2 := Lib.hid hb2
    have HPV1 := Lib.hid pv1; have HPV2 := Lib.hid pv2; have HH := Lib.hid hh; have HL1 := Lib.hid hl1
    clear pv1 pv2 hh hl1 hl2 hb2
    cases bo with
    | false =>
      have r0 := hbr.cell 0 (u := .int .i64 0) rfl; have r1 := hbr.cell 1 (u := .string ⟨#[]⟩) rfl; have r2 := hbr.cell 2 (u := .string ⟨#[]⟩) rfl; have r3 := hbr.cell 3 (u := .int .i64 0) rfl; have r4 := hbr.cell 4 (u := .slice none 0 0) rfl; have r5 := hbr.cell 5 (u := .slice none 0 0) rfl
      have f0 := hbr.frozen 0; have f1 := hbr.frozen 1; have f2 := hbr.frozen 2; have f3 := hbr.frozen 3; have f4 := hbr.frozen 4; have f5 := hbr.frozen 5
      have s0 := hbb.cell 0 (u := .bool false) rfl; have g0 := hbb.frozen 0
      have hlt0 := hbl.lt; have hlt1 := hbq.lt; have hlt := hbr.lt; have hlt2 := hbb.lt
      clear hbl hbq hbr hbb
      gi_wp2_with fail
      have HNN := Lib.hid (none_ofP HBO.out)
      clear r0 r1 r2 r3 r4 r5 f0 f1 f2 f3 f4 f5 s0 g0 hlt0 hlt1 hlt hlt2
      exact thru_no HI.out HB2.out HPL.out HNN.out _ _
    | true =>
      clear hbl hbq hbr hbb
      gi_wp2_with fail
      have HSM := Lib.hid (outP_of HO.out HBO.out)
      have b3 := (Blk.new w2 54 (cellsV x1 E1 n1 c1 E2 n2 c2)).alloc (.cells (cellsV y1 E3 n3 c3 E4 n4 c4) 54)
      have b4 := Blk.new (w2.alloc (.cells (cellsV x1 E1 n1 c1 E2 n2 c2) 54)) 54 (cellsV y1 E3 n3 c3 E4 n4 c4)
      have hb4 : Below w2.heap.size w2 ((w2.alloc (.cells (cellsV x1 E1 n1 c1 E2 n2 c2) 54)).alloc (.cells (cellsV y1 E3 n3 c3 E4 n4 c4) 54)) := two_box _ _ _
      simp only [World.size_alloc] at b4
      dsimp only [cellsV] at b3 b4 hb4
      generalize ((w2.alloc (.cells #[.int .i64 x1.k, strV x1.nm, strV x1.to, .int .i64 x1.h.pos, .slice E1 n1 c1, .slice E2 n2 c2] 54)).alloc (.cells #[.int .i64 y1.k, strV y1.nm, strV y1.to, .int .i64 y1.h.pos, .slice E3 n3 c3, .slice E4 n4 c4] 54)) = w4 at b3 b4 hb4 ⊢
      have hw4 := hb4.size
      generalize hz2 : w2.heap.size = z2 at b3 b4 hw4 ⊢
      have hz0 : w.heap.size + 1 < z2 := by rw [← hz2]; exact HBQ.out.lt
      have HB4 := Lib.hid hb4
      have k4 := HBL.out.below hb4 HBL.out.lt; have qb := HBQ.out.below hb4 HBQ.out.lt
      have HSB : Hid (∀ Y, Blk Y w.heap.size 43 #[.slice (some ⟨g, 0, none⟩) n c] → Blk Y z2 54 (cellsV x1 E1 n1 c1 E2 n2 c2) → Blk Y (z2 + 1) 54 (cellsV y1 E3 n3 c3 E4 n4 c4) → Y.cell? ⟨w.heap.size, 0, none⟩ = some (.slice (some ⟨g, 0, none⟩) n c) ∧ Y.cell? ⟨z2, 0, none⟩ = some (.int .i64 x1.k) ∧ Y.cell? ⟨z2, 1, none⟩ = some (strV x1.nm) ∧ Y.cell? ⟨z2, 2, none⟩ = some (strV x1.to) ∧ Y.cell? ⟨z2, 3, none⟩ = some (.int .i64 x1.h.pos) ∧ Y.cell? ⟨z2, 4, none⟩ = some (.slice E1 n1 c1) ∧ Y.cell? ⟨z2, 5, none⟩ = some (.slice E2 n2 c2) ∧ Y.cell? ⟨z2 + 1, 0, none⟩ = some (.int .i64 y1.k) ∧ Y.cell? ⟨z2 + 1, 1, none⟩ = some (strV y1.nm) ∧ Y.cell? ⟨z2 + 1, 2, none⟩ = some (strV y1.to) ∧ Y.cell? ⟨z2 + 1, 3, none⟩ = some (.int .i64 y1.h.pos) ∧ Y.cell? ⟨z2 + 1, 4, none⟩ = some (.slice E3 n3 c3) ∧ Y.cell? ⟨z2 + 1, 5, none⟩ = some (.slice E4 n4 c4)) := Lib.hid (fun Y h1 h2 h3 => ⟨h1.cell 0 rfl, h2.cell 0 rfl, h2.cell 1 rfl, h2.cell 2 rfl, h2.cell 3 rfl, h2.cell 4 rfl, h2.cell 5 rfl, h3.cell 0 rfl, h3.cell 1 rfl, h3.cell 2 rfl, h3.cell 3 rfl, h3.cell 4 rfl, h3.cell 5 rfl⟩)
      have MID := Lib.hid (thru_mid (w4 := w4) HI.out (H.out.r g rfl) H.out.rl HB2.out hb4 HPV1.out HPV2.out HH.out)
      have HK6 := Lib.hid (blk_set6 k4 (g := w.heap.size + 1) (by omega) (.int .i64 x1.k) (strV x1.nm) (strV x1.to) (.int .i64 x1.h.pos) (.slice E1 n1 c1) (.slice E2 n2 c2))
      have HX6 := Lib.hid (blk_set6 b3 (g := w.heap.size + 1) (by omega) (.int .i64 x1.k) (strV x1.nm) (strV x1.to) (.int .i64 x1.h.pos) (.slice E1 n1 c1) (.slice E2 n2 c2))
      have HY6 := Lib.hid (blk_set6 b4 (g := w.heap.size + 1) (by omega) (.int .i64 x1.k) (strV x1.nm) (strV x1.to) (.int .i64 x1.h.pos) (.slice E1 n1 c1) (.slice E2 n2 c2))
      obtain ⟨k0, e0, e1, e2, e3, e4, e5, yy0, yy1, yy2, yy3, yy4, yy5⟩ := HSB.out w4 k4 b3 b4
      have q0 := qb.cell 0 (u := .int .i64 x.k) rfl; have q1 := qb.cell 1 (u := strV x.nm) rfl; have q2 := qb.cell 2 (u := strV x.to) rfl; have q3 := qb.cell 3 (u := .int .i64 x.h.pos) rfl; have q4 := qb.cell 4 (u := .slice D1 m1 k1) rfl; have q5 := qb.cell 5 (u := .slice D2 m2 k2) rfl
      have f0 := qb.frozen 0; have f1 := qb.frozen 1; have f2 := qb.frozen 2; have f3 := qb.frozen 3; have f4 := qb.frozen 4; have f5 := qb.frozen 5
      have hgz : g < w.heap.size := H.out.rl g (H.out.r g rfl)
      have HGZ := Lib.hid hgz
      have hin : (i : Int) < (n : Int) := by omega
      clear k4 b3 b4 hb4 qb
      refine round_held (S := fun Y : World => Y.cell? ⟨w.heap.size, 0, none⟩ = some (.slice (some ⟨g, 0, none⟩) n c) ∧ Y.cell? ⟨z2, 0, none⟩ = some (.int .i64 x1.k) ∧ Y.cell? ⟨z2, 1, none⟩ = some (strV x1.nm) ∧ Y.cell? ⟨z2, 2, none⟩ = some (strV x1.to) ∧ Y.cell? ⟨z2, 3, none⟩ = some (.int .i64 x1.h.pos) ∧ Y.cell? ⟨z2, 4, none⟩ = some (.slice E1 n1 c1) ∧ Y.cell? ⟨z2, 5, none⟩ = some (.slice E2 n2 c2) ∧ Y.cell? ⟨z2 + 1, 0, none⟩ = some (.int .i64 y1.k) ∧ Y.cell? ⟨z2 + 1, 1, none⟩ = some (strV y1.nm) ∧ Y.cell? ⟨z2 + 1, 2, none⟩ = some (strV y1.to) ∧ Y.cell? ⟨z2 + 1, 3, none⟩ = some (.int .i64 y1.h.pos) ∧ Y.cell? ⟨z2 + 1, 4, none⟩ = some (.slice E3 n3 c3) ∧ Y.cell? ⟨z2 + 1, 5, none⟩ = some (.slice E4 n4 c4)) (by kernel_rfl) (by kernel_rfl) ?hq ?hS (fun hS0 => ?_)
      case hq => rintro ⟨_, _, h⟩; exact h
      case hS => exact ⟨k0, e0, e1, e2, e3, e4, e5, yy0, yy1, yy2, yy3, yy4, yy5⟩
      refine wpAnyH_take (i := 0) (v := ?_) rfl (by kernel_rfl) (by kernel_rfl) (by kernel_rfl) (fun _ _ _ h => h) (Or.inl ⟨by rfl, ?_⟩) hS0 ?_
      rotate_left
      · intro Y hY
        obtain ⟨s0, s1, s2, s3, s4, s5, s6, s7, s8, s9, s10, s11, s12⟩ := hY
        go_simp
        try with_reducible rfl
      simp only [Act.put, List.getElem_toArray, List.getElem_cons_succ, List.getElem_cons_zero, List.setIfInBounds_toArray, List.set_cons_succ, List.set_cons_zero]
      refine wpAnyH_take (i := 1) (v := ?_) rfl (by kernel_rfl) (by kernel_rfl) (by kernel_rfl) (fun _ _ _ h => h) (Or.inl ⟨by rfl, ?_⟩) hS0 ?_
      rotate_left
      · intro Y hY
        obtain ⟨s0, s1, s2, s3, s4, s5, s6, s7, s8, s9, s10, s11, s12⟩ := hY
        go_simp
        try with_reducible rfl
      simp only [Act.put, List.getElem_toArray, List.getElem_cons_succ, List.getElem_cons_zero, List.setIfInBounds_toArray, List.set_cons_succ, List.set_cons_zero]
      refine wpAnyH_take (i := 2) (v := ?_) rfl (by kernel_rfl) (by kernel_rfl) (by kernel_rfl) (fun _ _ _ h => h) (Or.inl ⟨by rfl, ?_⟩) hS0 ?_
      rotate_left
      · intro Y hY
        obtain ⟨s0, s1, s2, s3, s4, s5, s6, s7, s8, s9, s10, s11, s12⟩ := hY
        go_simp
        try with_reducible rfl
      simp only [Act.put, List.getElem_toArray, List.getElem_cons_succ, List.getElem_cons_zero, List.setIfInBounds_toArray, List.set_cons_succ, List.set_cons_zero]
      refine wpAnyH_take (i := 3) (v := ?_) rfl (by kernel_rfl) (by kernel_rfl) (by kernel_rfl) (fun _ _ _ h => h) (Or.inl ⟨by rfl, ?_⟩) hS0 ?_
      rotate_left
      · intro Y hY
        obtain ⟨s0, s1, s2, s3, s4, s5, s6, s7, s8, s9, s10, s11, s12⟩ := hY
        go_simp
        try with_reducible rfl
      simp only [Act.put, List.getElem_toArray, List.getElem_cons_succ, List.getElem_cons_zero, List.setIfInBounds_toArray, List.set_cons_succ, List.set_cons_zero]
      refine wpAnyH_ready (rs := [4]) (by kernel_rfl) (by simp) ?_
      refine AllReadyH.cons rfl (fun K1 hK => ?_) AllReadyH.nil
      go_simp
      clear hS0 k0 e0 e1 e2 e3 e4 e5 yy0 yy1 yy2 yy3 yy4 yy5 q0 q1 q2 q3 q4 q5 f0 f1 f2 f3 f4 f5
      obtain ⟨a1, a2, a3, a4, a5, a6, a7, a8, a9, a10⟩ := MID.out
      clear MID
      generalize (World.setCell (World.setCell (World.setCell (World.setCell (World.setCell (World.setCell w4 ⟨w.heap.size + 1, 0, none⟩ (.int .i64 x1.k)) ⟨w.heap.size + 1, 1, none⟩ (strV x1.nm)) ⟨w.heap.size + 1, 2, none⟩ (strV x1.to)) ⟨w.heap.size + 1, 3, none⟩ (.int .i64 x1.h.pos)) ⟨w.heap.size + 1, 4, none⟩ (.slice E1 n1 c1)) ⟨w.heap.size + 1, 5, none⟩ (.slice E2 n2 c2)) = w6 at *
      refine hK.out _ _ (HSB.out w6.drew (HK6.out.drewN 1) (HX6.out.drewN 1) (HY6.out.drewN 1)) (fun hS1 => ?_)
      clear hK K1
      obtain ⟨_, _, _, _, _, _, c0, c1', c2', c3', c4', c5', cf, _⟩ := a1.elem HL.out (at_mid HPL.out)
      have f0 := cf (i * 6); have f1 := cf (i * 6 + 1); have f2 := cf (i * 6 + 2); have f3 := cf (i * 6 + 3); have f4 := cf (i * 6 + 4); have f5 := cf (i * 6 + 5)
      have HF := Lib.hid (thru_fin HI.out (H.out.r g rfl) HGZ.out HPL.out HLP.out HL.out HSM.out a1 a2 a3 a4 a5 a6 a7 a8)
      have HA := Lib.hid (And.intro a9 a10)
      have HZ := Lib.hid hz0
      clear a1 a2 a3 a4 a5 a6 a7 a8 a9 a10 cf
      refine wpAnyH_take (i := 5) (v := ?_) rfl (by kernel_rfl) (by kernel_rfl) (by kernel_rfl) (fun _ _ _ h => h) (Or.inl ⟨by rfl, ?_⟩) hS1 ?_
      rotate_left
      · intro Y hY
        obtain ⟨s0, s1, s2, s3, s4, s5, s6, s7, s8, s9, s10, s11, s12⟩ := hY
        go_simp
        try with_reducible rfl
      simp only [Act.put, List.getElem_toArray, List.getElem_cons_succ, List.getElem_cons_zero, List.setIfInBounds_toArray, List.set_cons_succ, List.set_cons_zero]
      refine wpAnyH_ready (rs := [6]) (by kernel_rfl) (by simp) ?_
      refine AllReadyH.cons rfl (fun K1 hK => ?_) AllReadyH.nil
      go_simp
      obtain ⟨t1, t2, t3, t4⟩ := HF.out
      have hk9 := blk_row6 HK6.out (g := g) (by omega) i (.int .i64 y1.k) (strV y1.nm) (strV y1.to) (.int .i64 y1.h.pos) (.slice E3 n3 c3) (.slice E4 n4 c4)
      have hx9 := blk_row6 HX6.out (g := g) (by omega) i (.int .i64 y1.k) (strV y1.nm) (strV y1.to) (.int .i64 y1.h.pos) (.slice E3 n3 c3) (.slice E4 n4 c4)
      have hy9 := blk_row6 HY6.out (g := g) (by omega) i (.int .i64 y1.k) (strV y1.nm) (strV y1.to) (.int .i64 y1.h.pos) (.slice E3 n3 c3) (.slice E4 n4 c4)
      clear HF c0 c1' c2' c3' c4' c5' f0 f1 f2 f3 f4 f5
      generalize (World.setCell (World.setCell (World.setCell (World.setCell (World.setCell (World.setCell w6 ⟨g, i * 6, none⟩ (.int .i64 y1.k)) ⟨g, i * 6 + 1, none⟩ (strV y1.nm)) ⟨g, i * 6 + 2, none⟩ (strV y1.to)) ⟨g, i * 6 + 3, none⟩ (.int .i64 y1.h.pos)) ⟨g, i * 6 + 4, none⟩ (.slice E3 n3 c3)) ⟨g, i * 6 + 5, none⟩ (.slice E4 n4 c4)) = w9 at *
      refine hK.out _ _ (HSB.out w9.drew (hk9.drewN 1) (hx9.drewN 1) (hy9.drewN 1)) (fun _ => wpAnyH_done (by kernel_rfl) ?_ _)
      clear hK K1 hS1
      have hj : n - (pre ++ [i]).length = i := by rw [List.length_append, List.length_singleton]; omega
      have hd : Below w9.heap.size w9 w9.drew := below_drewN (Below.refl _ _) 1
      refine ⟨((HA.out.1 _).trans (t2 _)).trans (keepsFrom_below _ hd), ⟨fun v hv => t3 _ v (by omega) (HA.out.2 _ v (by omega) hv), fun _ => cells6_below t4 hd⟩, x1, y1 :: post, E1, n1, c1, E2, n2, c2, ?_⟩
      rw [hj]
      exact t1.mv hd
  case done =>
    rintro E W hE hI hK
    obtain ⟨x, post, D1, m1, k1, D2, m2, k2, hI⟩ := hI
    rw [dn_length, Nat.sub_self] at hI
    have q0 := hI.bq.cell 0 (u := .int .i64 x.k) rfl; have q1 := hI.bq.cell 1 (u := strV x.nm) rfl; have q2 := hI.bq.cell 2 (u := strV x.to) rfl; have q3 := hI.bq.cell 3 (u := .int .i64 x.h.pos) rfl; have q4 := hI.bq.cell 4 (u := .slice D1 m1 k1) rfl; have q5 := hI.bq.cell 5 (u := .slice D2 m2 k2) rfl
    have r0 := hI.br.cell 0 (u := .int .i64 0) rfl; have r1 := hI.br.cell 1 (u := .string ⟨#[]⟩) rfl; have r2 := hI.br.cell 2 (u := .string ⟨#[]⟩) rfl; have r3 := hI.br.cell 3 (u := .int .i64 0) rfl; have r4 := hI.br.cell 4 (u := .slice none 0 0) rfl; have r5 := hI.br.cell 5 (u := .slice none 0 0) rfl
    have f0 := hI.br.frozen 0; have f1 := hI.br.frozen 1; have f2 := hI.br.frozen 2; have f3 := hI.br.frozen 3; have f4 := hI.br.frozen 4; have f5 := hI.br.frozen 5
    have s0 := hI.bb.cell 0 (u := .bool false) rfl; have g0 := hI.bb.frozen 0
    have HI := Lib.hid hI
    have HD := Lib.hid (thru_done hI H.out.r H.out.rl (by omega) hK)
    clear hI
    gi_wp2
    obtain ⟨d1, d2, d3, d4, d5, d6⟩ := HD.out
    refine ⟨by simp, .inl ⟨_, _, rfl, run_takeDeferred d1, ?_⟩⟩
    clear d1 hK q0 q1 q2 q3 q4 q5 r0 r1 r2 r3 r4 r5 f0 f1 f2 f3 f4 f5 s0 g0
    generalize (World.putObj ((World.setCell (World.setCell (World.setCell (World.setCell (World.setCell (World.setCell W ⟨w.heap.size + 1 + 1, 0, none⟩ (.int .i64 x.k)) ⟨w.heap.size + 1 + 1, 1, none⟩ (strV x.nm)) ⟨w.heap.size + 1 + 1, 2, none⟩ (strV x.to)) ⟨w.heap.size + 1 + 1, 3, none⟩ (.int .i64 x.h.pos)) ⟨w.heap.size + 1 + 1, 4, none⟩ (.slice D1 m1 k1)) ⟨w.heap.size + 1 + 1, 5, none⟩ (.slice D2 m2 k2)).setCell ⟨w.heap.size + 1 + 1 + 1, 0, none⟩ (.bool true)) E (.deferred none)) = W9 at *
    have z0 := d3.cell 0 (u := .bool true) rfl
    have u0 := d2.cell 0 (u := .int .i64 x.k) rfl; have u1 := d2.cell 1 (u := strV x.nm) rfl; have u2 := d2.cell 2 (u := strV x.to) rfl; have u3 := d2.cell 3 (u := .int .i64 x.h.pos) rfl; have u4 := d2.cell 4 (u := .slice D1 m1 k1) rfl; have u5 := d2.cell 5 (u := .slice D2 m2 k2) rfl
    refine ⟨.tuple #[.agg #[.int .i64 x.k, strV x.nm, strV x.to, .int .i64 x.h.pos, .slice D1 m1 k1, .slice D2 m2 k2], .bool true], by simp [results, Try.results65, go_sem, z0, u0, u1, u2, u3, u4, u5], fun z hz => ?_, fun hn => ?_, d6⟩
    · have he := HI.out.eq
      rw [List.drop_zero] at he
      have hz' := Option.some.inj (hz.symm.trans he)
      subst hz'
      exact ⟨D1, m1, k1, D2, m2, k2, rfl, d4, d5⟩
    · have he := HI.out.eq
      rw [List.drop_zero] at he
      rw [he] at hn
      cases hn
  case stop =>
    rintro E c' pre post W hE hpp ⟨rfl, ho, b2, b3, fr⟩ hK
    gi_wp2
    refine ⟨by simp, .inl ⟨_, _, rfl, run_takeDeferred hK, ?_⟩⟩
    obtain ⟨p1, p2, _, _, _⟩ := thru_put (by omega) hK fr
    have d2 := p2 _ _ _ (by omega) b2
    have d3 := p2 _ _ _ (by omega) b3
    clear hK b2 b3 fr p2
    generalize (World.putObj W E (.deferred none)) = W9 at *
    have z0 := d3.cell 0 (u := .bool false) rfl
    have u0 := d2.cell 0 (u := .int .i64 0) rfl; have u1 := d2.cell 1 (u := .string ⟨#[]⟩) rfl; have u2 := d2.cell 2 (u := .string ⟨#[]⟩) rfl; have u3 := d2.cell 3 (u := .int .i64 0) rfl; have u4 := d2.cell 4 (u := .slice none 0 0) rfl; have u5 := d2.cell 5 (u := .slice none 0 0) rfl
    refine ⟨.tuple #[.agg zeroV, .bool false], by simp [results, Try.results65, go_sem, z0, u0, u1, u2, u3, u4, u5], fun z hz => ?_, fun _ => rfl, p1⟩
    rw [ho] at hz
    cases hz

end Fl
end Go.Proofs.Ytdnkinajbebkoaa

set_option maxRecDepth 100000
namespace Go.Proofs.Ytdnkinajbebkoaa
open Go.RowKit
set_option linter.unusedVariables false
namespace Fl
open Tx Df Sq Hk Tr Pr

/-- How a call ends that makes a list of changes in memory that is new. -/
def LPHi (w : World) (l : List Ch) (e : Ending) (w' : World) : Prop := ∃ A c, e = .returned (.slice A l.length c) ∧ l.length ≤ c ∧ RdP w' (fun b => w.heap.size ≤ b ∧ b < w'.heap.size) A l ∧ Below w.heap.size w w'
theorem LPHi.end_ {w w' : World} {l : List Ch} {e : Ending} (h : LPHi w l e w') : LPEnd w l e w' := by
  obtain ⟨A, c, h1, h2, h3, h4⟩ := h
  exact ⟨A, c, h1, h2, h3.mono fun b hb => hb.2, h4⟩
/-- A row of one's own that is new is read as changes. -/
theorem rdP_of_own_hi {W : World} {S : Nat → Prop} {base n c N : Nat} {A : Option Addr} {l : List Ch} (h : OwnS W S base (.slice A n c) l) (hS : ∀ b, S b → N ≤ b ∧ b < W.heap.size) (hN : N ≤ base) (hl : l.length = n) : RdP W (fun b => N ≤ b ∧ b < W.heap.size) A l := by
  have h1 := rdP_of_own h (fun b hb => (hS b hb).2) hl
  by_cases h0 : l = []
  · exact .inl h0
  have hge := ownS_ge h
  obtain ⟨xs, hr, hF⟩ := h
  rcases hr.2 with ⟨_, h2⟩ | ⟨g, cap, cur, e, hbg, hgb, hc, _⟩
  · exact absurd (List.eq_nil_of_length_eq_zero h2) h0
  · injection e with e1 e2 e3
    subst e1
    rcases h1 with h1 | ⟨a, e, h3, h4⟩
    · exact .inl h1
    · injection e with e
      subst e
      refine .inr ⟨_, rfl, ⟨Nat.le_trans hN hbg, h3⟩, fun k x hx => ?_⟩
      obtain ⟨B, i, j, D, m, d, q0, q1, q2, q3, q4, q5, q6⟩ := hF k x hx
      obtain ⟨c0, c1, c2, c3, A', n', c', B', m', d', c4, c5, c6⟩ := h4 k x hx
      refine ⟨c0, c1, c2, c3, A', n', c', B', m', d', c4, c5, ?_⟩
      have hk : k < l.length := (List.getElem?_eq_some_iff.1 hx).1
      have ea : (⟨g, 0, none⟩ : Addr).add (k * 6) = ⟨g, k * 6, none⟩ := by unfold Addr.add; split <;> simp_all
      have e2' : l.length = n := hl
      subst e2'
      have z4 := c4; have z5 := c5
      rw [ea] at z4 z5
      have z4' : W.cell? ⟨g, k * 6 + 4, none⟩ = some (.slice A' n' c') := z4
      have z5' : W.cell? ⟨g, k * 6 + 5, none⟩ = some (.slice B' m' d') := z5
      rw [World.ownsRow.cellAt hr (k * 6 + 4) (by omega), q4] at z4'
      rw [World.ownsRow.cellAt hr (k * 6 + 5) (by omega), q5] at z5'
      injection z4' with z4'
      injection z5' with z5'
      injection z4' with y1 y2 y3
      injection z5' with y4 y5 y6
      subst y1 y2 y3 y4 y5 y6
      exact q6.mono hS
end Fl
end Go.Proofs.Ytdnkinajbebkoaa

set_option maxRecDepth 100000
namespace Go.Proofs.Ytdnkinajbebkoaa
open Go.RowKit
set_option linter.unusedVariables false
set_option linter.unusedSimpArgs false
namespace Fl
open Tx Df Sq Hk Tr Pr

/-- The rows of both lists, and what there was ahead of the call. -/
def Two (lo : Nat) (v u : Value) : Nat → Prop := fun b => b < lo ∨ some b = v.ownBlock ∨ some b = u.ownBlock

/-- How a call of Pass ends that tells x, y and bo, in memory that is new. -/
def LPassEndH (w : World) (x y : List Ch) (bo : Bool) (e : Ending) (w' : World) : Prop :=
  ∃ A c B d, e = .returned (.tuple #[.slice A x.length c, .slice B y.length d, .bool bo]) ∧ x.length ≤ c ∧ y.length ≤ d ∧ RdP w' (fun b => w.heap.size ≤ b ∧ b < w'.heap.size) A x ∧ RdP w' (fun b => w.heap.size ≤ b ∧ b < w'.heap.size) B y ∧ Below w.heap.size w w'
theorem LPassEndH.end_ {w w' : World} {x y : List Ch} {bo : Bool} {e : Ending} (h : LPassEndH w x y bo e w') : LPassEnd w x y bo e w' := by
  obtain ⟨A, c, B, d, h1, _, _, h2, h3, h4⟩ := h
  exact ⟨A, c, B, d, h1, h2.mono fun b hb => hb.2, h3.mono fun b hb => hb.2, h4⟩
section
variable {w w' : World} {x y x' y' : List Ch} {bo : Bool} {o : Option (List Ch × List Ch)}
theorem lpassH_none (h : o = none) (ho : outF o = (x, y)) (hb : o.isSome = bo) (hw : Below w.heap.size w w') : LPassEndH w x y bo (.returned (.tuple #[.slice none 0 0, .slice none 0 0, .bool false])) w' := by
  subst h
  injection ho with h1 h2
  subst h1 h2 hb
  exact ⟨none, 0, none, 0, rfl, Nat.le_refl _, Nat.le_refl _, .inl rfl, .inl rfl, hw⟩
theorem lpassH_some {A B : Option Addr} {n c m d : Nat} {S T : Nat → Prop} {b1 b2 : Nat} (h : o = some (x', y')) (ho : outF o = (x, y)) (hb : o.isSome = bo) (hn : x'.length = n) (hm : y'.length = m) (hr : OwnS w' S b1 (.slice A n c) x') (hs : OwnS w' T b2 (.slice B m d) y')
    (hS : ∀ b, S b → w.heap.size ≤ b ∧ b < w'.heap.size) (hT : ∀ b, T b → w.heap.size ≤ b ∧ b < w'.heap.size) (h1 : w.heap.size ≤ b1) (h2 : w.heap.size ≤ b2) (hw : Below w.heap.size w w') :
    LPassEndH w x y bo (.returned (.tuple #[.slice A n c, .slice B m d, .bool true])) w' := by
  subst h
  injection ho with e1 e2
  subst e1 e2 hb hn hm
  obtain ⟨_, _, e1, k1⟩ := ownS_slice hr
  obtain ⟨_, _, e2, k2⟩ := ownS_slice hs
  injection e1 with _ _ e1
  injection e2 with _ _ e2
  exact ⟨A, c, B, d, rfl, e1 ▸ k1, e2 ▸ k2, rdP_of_own_hi hr hS h1 rfl, rdP_of_own_hi hs hT h2 rfl, hw⟩
end

theorem OwnS.row6 {W : World} {S : Nat → Prop} {base g : Nat} {v : Value} {l : List Ch} (h : OwnS W S base v l) (hb : some g ≠ v.ownBlock) (hN : ¬ S g) (k : Nat) (v0 v1 v2 v3 v4 v5 : Value) :
    OwnS ((((((W.setCell ⟨g, k * 6, none⟩ v0).setCell ⟨g, k * 6 + 1, none⟩ v1).setCell ⟨g, k * 6 + 2, none⟩ v2).setCell ⟨g, k * 6 + 3, none⟩ v3).setCell ⟨g, k * 6 + 4, none⟩ v4).setCell ⟨g, k * 6 + 5, none⟩ v5) S base v l :=
  (((((h.set hb hN (k * 6) v0).set hb hN (k * 6 + 1) v1).set hb hN (k * 6 + 2) v2).set hb hN (k * 6 + 3) v3).set hb hN (k * 6 + 4) v4).set hb hN (k * 6 + 5) v5

theorem ahead_at {α : Type} {x b : List α} {k : Nat} {q : α} (hx : x.length = k) (h : b[k]? = some q) : (x ++ b.drop k)[k]? = some q := by
  rw [List.getElem?_append_right (by omega), hx, Nat.sub_self, List.getElem?_drop, Nat.add_zero]
  exact h
theorem ahead_set {α : Type} {x b : List α} {k : Nat} {q q1 : α} (hx : x.length = k) (h : b[k]? = some q) : (x ++ b.drop k).set k q1 = (x ++ [q1]) ++ b.drop (k + 1) := by
  rw [drop_at h, List.set_append_right _ _ (by omega), hx, Nat.sub_self, List.append_assoc]
  rfl

/-- Between two rounds of Pass. -/
structure PassI (w W : World) (base : Nat) (Ab Aa : Option Addr) (n n' ca cb : Nat) (a b : List Ch) (k : Nat) (x cur : List Ch) : Prop where
  eq : passF a (b.take k) = some (x, cur)
  lenx : x.length = k
  len : cur.length = n
  lt : Lt cur
  ahead : OwnS W (But W (Two w.heap.size (.slice Ab n' cb) (.slice Aa n ca))) w.heap.size (.slice Ab n' cb) (x ++ b.drop k)
  behind : OwnS W (But W (Two w.heap.size (.slice Ab n' cb) (.slice Aa n ca))) base (.slice Aa n ca) cur
  sep : ∀ g, (Value.slice Ab n' cb).ownBlock = some g → g < base
  bw : Below w.heap.size w W
  hb : w.heap.size ≤ base

theorem PassI.rl {w W : World} {base : Nat} {Ab Aa : Option Addr} {n n' ca cb k : Nat} {a b x cur : List Ch} (h : PassI w W base Ab Aa n n' ca cb a b k x cur) : ∀ g, Two w.heap.size (.slice Ab n' cb) (.slice Aa n ca) g → g < W.heap.size := fun g hg => by
  rcases hg with e | e | e
  · exact Nat.lt_of_lt_of_le e h.bw.size
  · exact ownS_lt h.ahead g e.symm
  · exact ownS_lt h.behind g e.symm
theorem PassI.ne {w W : World} {base : Nat} {Ab Aa : Option Addr} {n n' ca cb k : Nat} {a b x cur : List Ch} (h : PassI w W base Ab Aa n n' ca cb a b k x cur) : ∀ g, (Value.slice Ab n' cb).ownBlock = some g → (Value.slice Aa n ca).ownBlock ≠ some g := fun g hg e => by
  have h1 := h.sep g hg
  have h2 := ownS_ge h.behind g e
  omega

/-- The start: both are one's own. -/
theorem pass_start {w w1 w2 : World} {Ab Aa : Option Addr} {n n' ca cb : Nat} {a b : List Ch} (hn : a.length = n) (ha : Lt a)
    (h1 : OwnS w1 (Fresh w w1 (Value.slice Ab n' cb).ownBlock) w.heap.size (.slice Ab n' cb) b) (hb1 : Below w.heap.size w w1)
    (h2 : OwnS w2 (Fresh w1 w2 (Value.slice Aa n ca).ownBlock) w1.heap.size (.slice Aa n ca) a) (hb2 : Below w1.heap.size w1 w2) :
    PassI w w2 w1.heap.size Ab Aa n n' ca cb a b 0 [] a := by
  refine ⟨by rw [List.take_zero]; exact passL_nil _ _, rfl, hn, ha, ?_, ?_, fun g hg => ownS_lt h1 g hg, hb1.trans (hb2.mono hb1.size), hb1.size⟩
  · rw [List.drop_zero, List.nil_append]
    refine (h1.below hb2).mono fun b hb => ⟨by have := hb.2.1; have := hb2.size; omega, fun e => ?_⟩
    rcases e with e | e | e
    · exact absurd hb.1 (Nat.not_le.2 e)
    · exact hb.2.2 e
    · have h3 := ownS_ge h2 b e.symm
      have := hb.2.1
      omega
  · refine h2.mono fun b hb => ⟨hb.2.1, fun e => ?_⟩
    rcases e with e | e | e
    · have := hb.1
      have := hb1.size
      omega
    · have h3 := ownS_lt h1 b e.symm
      have := hb.1
      omega
    · exact hb.2.2 e

/-- A round: the change passes; what it is then is stored. -/
theorem pass_next {w W w1 w3 w4 : World} {base g : Nat} {Aa : Option Addr} {n n' ca cb k : Nat} {a b x cur a1 : List Ch} {q q1 : Ch} {E1 E2 : Option Addr} {n1 c1 n2 c2 : Nat}
    (h : PassI w W base (some ⟨g, 0, none⟩) Aa n n' ca cb a b k x cur) (hb : Lt b) (hq : b[k]? = some q) (hbl : b.length = n') (hon : one passP cur q = some (q1, a1)) (hb1 : Below W.heap.size W w1) (hg : w1.grownBy w3 (Value.slice Aa n ca).ownBlock) (hb4 : Below w3.heap.size w3 w4)
    (hrow : OwnS w3 (But w3 (Two w.heap.size (.slice (some ⟨g, 0, none⟩) n' cb) (.slice Aa n ca))) base (.slice Aa n ca) a1) (hpg : PG w3 (But w3 (Two w.heap.size (.slice (some ⟨g, 0, none⟩) n' cb) (.slice Aa n ca))) E1 n1 c1 E2 n2 c2 q1) :
    OwnS w4 (But w4 (Two w.heap.size (.slice (some ⟨g, 0, none⟩) n' cb) (.slice Aa n ca))) w.heap.size (.slice (some ⟨g, 0, none⟩) n' cb) (x ++ b.drop k) ∧
    PassI w ((((((w4.setCell ⟨g, k * 6, none⟩ (.int .i64 q1.k)).setCell ⟨g, k * 6 + 1, none⟩ (strV q1.nm)).setCell ⟨g, k * 6 + 2, none⟩ (strV q1.to)).setCell ⟨g, k * 6 + 3, none⟩ (.int .i64 q1.h.pos)).setCell ⟨g, k * 6 + 4, none⟩ (.slice E1 n1 c1)).setCell ⟨g, k * 6 + 5, none⟩ (.slice E2 n2 c2)) base (some ⟨g, 0, none⟩) Aa n n' ca cb a b (k + 1) (x ++ [q1]) a1 := by
  have hl3 : (x ++ b.drop k).length = n' := by
    have hk := (List.getElem?_eq_some_iff.1 hq).1
    rw [List.length_append, List.length_drop, h.lenx, hbl]; omega
  have hgo : (Value.slice (some ⟨g, 0, none⟩) n' cb).ownBlock = some g := rfl
  have hne := h.ne g hgo
  have hgl := h.rl g (.inr (.inl rfl))
  have hG : Two w.heap.size (.slice (some ⟨g, 0, none⟩) n' cb) (.slice Aa n ca) g := .inr (.inl rfl)
  have a3 : OwnS w3 (But w3 (Two w.heap.size (.slice (some ⟨g, 0, none⟩) n' cb) (.slice Aa n ca))) w.heap.size (.slice (some ⟨g, 0, none⟩) n' cb) (x ++ b.drop k) :=
    ((((h.ahead.below hb1).mono (but_up hb1.size)).gr hg (fun i hi => by injection hi with hi; rw [← hi]; exact hne) (fun i hi e => hi.2 (.inr (.inr e.symm))))).mono (but_up hg.size)
  have a4 := (a3.below hb4).mono (but_up hb4.size)
  have hp4 := (hpg.to_ (fun b _ hl => hb4.block b hl)).mono (but_up hb4.size)
  have hr4 := (hrow.below hb4).mono (but_up hb4.size)
  have hN : ¬ But w4 (Two w.heap.size (.slice (some ⟨g, 0, none⟩) n' cb) (.slice Aa n ca)) g := fun e => e.2 hG
  have h5 := a4.store (k := k) hl3 hN hp4
  rw [ahead_set h.lenx hq] at h5
  have h6 := hr4.row6 (g := g) (fun e => hne e.symm) hN k (.int .i64 q1.k) (strV q1.nm) (strV q1.to) (.int .i64 q1.h.pos) (.slice E1 n1 c1) (.slice E2 n2 c2)
  have hbw : Below w.heap.size w w4 := by
    have h1 := h.bw.trans (hb1.mono h.bw.size)
    have h2 := h1.grown hg h1.size (fun i hi => Nat.le_trans h.hb (ownS_ge h.behind i hi))
    exact h2.trans (hb4.mono h2.size)
  have hwg : w.heap.size ≤ g := ownS_ge h.ahead g rfl
  refine ⟨a4, passL_step passP h.eq hq hon, by rw [List.length_append, h.lenx]; rfl, by rw [one_len passP hon]; exact h.len, (one_lt hon h.lt (hb q (List.mem_of_getElem? hq))).2, h5.mono (but_up (by simp)), h6.mono (but_up (by simp)), h.sep, below_row6 hbw hwg k _ _ _ _ _ _, h.hb⟩

set_option maxRecDepth 100000 in
set_option maxHeartbeats 4000000 in
theorem PassLH (A : Option Addr) (n c : Nat) (A' : Option Addr) (n' c' : Nat) (a b x y : List Ch) (w : World) (bo : Bool) (hn : a.length = n) (hn' : b.length = n') (hle : n ≤ 1000) (hle' : n' ≤ 1000) (ha : Lt a) (hb : Lt b)
    (hR : RdP w (· < w.heap.size) A a) (hR' : RdP w (· < w.heap.size) A' b) (ho : outF (passF a b) = (x, y)) (hs : (passF a b).isSome = bo) :
    Calls Try.prog 50 #[.slice A n c, .slice A' n' c'] w (LPassEndH w x y bo) := by
  have HR := Lib.hid hR; have HR' := Lib.hid hR'; have HN := Lib.hid hn; have HN' := Lib.hid hn'; have HA := Lib.hid ha; have HB := Lib.hid hb; have HO := Lib.hid ho; have HS := Lib.hid hs
  clear hR hR' hn hn' ha hb ho hs
  go_enter Try.func50, Try.ntmps50
  go_wp2_with fail
  refine (ownL A' n' c' b w HN'.out hle' HB.out HR'.out).mono ?_
  rintro e w1 ⟨Ab, cb, rfl, hcb, ho1, hb1⟩
  have HO1 := Lib.hid ho1; have HB1 := Lib.hid hb1
  clear ho1 hb1
  go_wp2_with fail
  refine (ownL A n c a w1 HN.out hle HA.out (HR.out.mv HB1.out)).mono ?_
  rintro e w2 ⟨Aa, ca, rfl, hca, ho2, hb2⟩
  have HST := Lib.hid (pass_start HN.out HA.out HO1.out HB1.out ho2 hb2)
  clear ho2 hb2 HO1 HB1
  generalize w1.heap.size = base at HST
  go_wp2
  go_loopw [19] (fun i wr => ∃ (k : Nat) (x1 cur : List Ch), k ≤ n' ∧ i = .int .i64 (k : Int) ∧ PassI w wr base Ab Aa n n' ca cb a b k x1 cur) (fun i _ => n' - (intOf i).toNat)
  case atStart => exact ⟨0, [], a, Nat.zero_le _, rfl, HST.out⟩
  case round =>
    clear HST
    obtain ⟨k, x1, cur, hk, rfl, hI⟩ := hrel
    have HI := Lib.hid hI
    clear hI
    by_cases hlt : k < n'
    · obtain ⟨q, hx⟩ : ∃ q, b[k]? = some q := ⟨_, List.getElem?_eq_getElem (by rw [HN'.out]; exact hlt)⟩
      have hl3 : (x1 ++ b.drop k).length = n' := by rw [List.length_append, List.length_drop, HI.out.lenx, HN'.out]; omega
      obtain ⟨g, hAb⟩ : ∃ g, Ab = some ⟨g, 0, none⟩ := by
        obtain ⟨xs, hr, _⟩ := HI.out.ahead
        rcases hr.2 with ⟨_, h1⟩ | ⟨g, cap, cur, e, _⟩
        · omega
        · injection e with e1; exact ⟨g, e1⟩
      subst hAb
      have hki : (k : Int) < (n' : Int) := by omega
      obtain ⟨D, m, f, D', m', f', c0, c1', c2, c3, c4, c5, _, hpg⟩ := HI.out.ahead.elem hl3 (ahead_at HI.out.lenx hx)
      have HX := Lib.hid hx
      have hba : Below wr.heap.size wr (wr.alloc (.cells (cellsV q D m f D' m' f') 54)) := (Below.refl _ _).alloc (Nat.le_refl _) _
      have HBA := Lib.hid hba
      have HT := Lib.hid (throughL (Two w.heap.size (.slice (some ⟨g, 0, none⟩) n' cb) (.slice Aa n ca)) base n ca Aa cur D m f D' m' f' q (wr.alloc (.cells (cellsV q D m f D' m' f') 54)) hle ⟨HI.out.len, HI.out.lt, HB.out q (List.mem_of_getElem? hx), fun i hi => .inr (.inr hi.symm), fun i hi => Nat.lt_of_lt_of_le (HI.out.rl i hi) hba.size, (HI.out.behind.below hba).mono (but_up hba.size), (hpg.to_ (fun b _ hl => hba.block b hl)).mono (but_up hba.size)⟩)
      clear hx hl3 hpg hba
      go_wp2_with fail
      clear c0 c1' c2 c3 c4 c5
      dsimp only [cellsV] at HT HBA
      refine HT.out.mono ?_
      clear HT
      generalize (wr.alloc (.cells #[.int .i64 q.k, strV q.nm, strV q.to, .int .i64 q.h.pos, .slice D m f, .slice D' m' f'] 54)) = w5 at *
      rintro e w3 ⟨h1, h2, hg⟩
      cases hon : one passP cur q with
      | none =>
        obtain rfl := h2 hon
        have HE := Lib.hid (passL_step_none passP HI.out.eq HX.out hon)
        have HBW : Hid (Below w.heap.size w w3) := Lib.hid (by
          have h3 := HI.out.bw.trans (HBA.out.mono HI.out.bw.size)
          exact h3.grown hg h3.size (fun i hi => Nat.le_trans HI.out.hb (ownS_ge HI.out.behind i hi)))
        clear h1 h2 hon hg
        go_wp2
        go_ret3
        exact lpassH_none HE.out HO.out HS.out (HBW.out.alloc HBW.out.size _)
      | some z =>
        obtain ⟨q1, a1⟩ := z
        obtain ⟨E1, n1, c1, E2, n2, c2, rfl, hrow, hpg⟩ := h1 _ hon
        have hb4 : Below w3.heap.size w3 (w3.alloc (.cells (cellsV q1 E1 n1 c1 E2 n2 c2) 54)) := (Below.refl _ _).alloc (Nat.le_refl _) _
        obtain ⟨hah, hnx⟩ := pass_next HI.out HB.out HX.out HN'.out hon HBA.out hg hb4 hrow hpg
        have HNX := Lib.hid hnx
        have hl3 : (x1 ++ b.drop k).length = n' := by rw [List.length_append, List.length_drop, HI.out.lenx, HN'.out]; omega
        obtain ⟨_, _, _, _, _, _, c0, c1', c2', c3, c4, c5, cf, _⟩ := hah.elem hl3 (ahead_at HI.out.lenx HX.out)
        have f0 := cf (k * 6); have f1 := cf (k * 6 + 1); have f2 := cf (k * 6 + 2); have f3 := cf (k * 6 + 3); have f4 := cf (k * 6 + 4); have f5 := cf (k * 6 + 5)
        clear h1 h2 hon hg hrow hpg hb4 hah hnx hl3 cf
        go_wp2_with fail
        exact ⟨⟨k + 1, x1 ++ [q1], a1, by omega, by go_num, HNX.out⟩, by simp [intOf]; omega⟩
    · have hkn : k = n' := by omega
      subst hkn
      have HE : Hid (passF a b = some (x1, cur)) := Lib.hid (by have := HI.out.eq; rw [List.take_of_length_le (by rw [HN'.out]; exact Nat.le_refl _)] at this; exact this)
      have HX1 : Hid (OwnS wr (But wr (Two w.heap.size (.slice Ab k cb) (.slice Aa n ca))) w.heap.size (.slice Ab k cb) x1) := Lib.hid (by have := HI.out.ahead; rw [List.drop_of_length_le (by rw [HN'.out]; exact Nat.le_refl _), List.append_nil] at this; exact this)
      go_wp2
      go_ret3
      exact lpassH_some HE.out HO.out HS.out HI.out.lenx HI.out.len HX1.out HI.out.behind (fun b hb => ⟨Nat.le_of_not_lt fun e => hb.2 (.inl e), hb.1⟩) (fun b hb => ⟨Nat.le_of_not_lt fun e => hb.2 (.inl e), hb.1⟩) (Nat.le_refl _) HI.out.hb HI.out.bw

end Fl
end Go.Proofs.Ytdnkinajbebkoaa

set_option maxRecDepth 100000
namespace Go.Proofs.Ytdnkinajbebkoaa
open Go.RowKit
set_option linter.unusedVariables false
set_option linter.unusedSimpArgs false
namespace Tg
open Tx Df Sq Hk Tr Pr Fl Pn

def outN (o : Option (Nm × Nm)) : Nm × Nm := o.getD (noN, noN)
/-- How a call of Pass ends that tells x, y and bo, in memory that is new. -/
def NPassEnd (w : World) (x y : Nm) (bo : Bool) (e : Ending) (w' : World) : Prop :=
  ∃ D1 d1 e1 A1 n1 c1 D2 d2 e2 A2 n2 c2, e = .returned (.tuple #[nmV x.id D1 d1 e1 x.txt A1 n1 c1, nmV y.id D2 d2 e2 y.txt A2 n2 c2, .bool bo]) ∧ NG w' (Since w w') D1 d1 e1 A1 n1 c1 x ∧ NG w' (Since w w') D2 d2 e2 A2 n2 c2 y ∧ Below w.heap.size w w'

theorem four_blk (w : World) (t0 t1 t2 t3 : TypeId) (c0 c1 c2 c3 : Array Value) : let W := (((w.alloc (.cells c0 t0)).alloc (.cells c1 t1)).alloc (.cells c2 t2)).alloc (.cells c3 t3)
    Blk W w.heap.size t0 c0 ∧ Blk W (w.heap.size + 1) t1 c1 ∧ Blk W (w.heap.size + 1 + 1) t2 c2 ∧ Blk W (w.heap.size + 1 + 1 + 1) t3 c3 ∧ Below w.heap.size w W := by
  intro W
  have b0 := (((Blk.new w t0 c0).alloc (.cells c1 t1)).alloc (.cells c2 t2)).alloc (.cells c3 t3)
  have b1 := ((Blk.new (w.alloc (.cells c0 t0)) t1 c1).alloc (.cells c2 t2)).alloc (.cells c3 t3)
  have b2 := (Blk.new ((w.alloc (.cells c0 t0)).alloc (.cells c1 t1)) t2 c2).alloc (.cells c3 t3)
  have b3 := Blk.new (((w.alloc (.cells c0 t0)).alloc (.cells c1 t1)).alloc (.cells c2 t2)) t3 c3
  simp only [World.size_alloc] at b1 b2 b3
  exact ⟨b0, b1, b2, b3, (((((Below.refl _ _).alloc (Nat.le_refl _) _).alloc (by simp) _).alloc (by simp; omega) _).alloc (by simp; omega) _)⟩
theorem npass_none {w w' : World} {x y : Nm} {bo : Bool} {o : Option (Nm × Nm)} (h : o = none) (ho : outN o = (x, y)) (hb : o.isSome = bo) (hw : Below w.heap.size w w') : NPassEnd w x y bo (.returned (.tuple #[.agg #[.int .i64 0, .int .i64 0, .slice none 0 0, .string ⟨#[]⟩, .slice none 0 0], .agg #[.int .i64 0, .int .i64 0, .slice none 0 0, .string ⟨#[]⟩, .slice none 0 0], .bool false])) w' := by
  subst h
  injection ho with h1 h2
  subst h1 h2 hb
  exact ⟨none, 0, 0, none, 0, 0, none, 0, 0, none, 0, 0, rfl, ng_no _ _, ng_no _ _, hw⟩

/-- Two boxes of five cells are set. -/
theorem two5 {W w : World} {B g : Nat} {t : TypeId} {a0 a1 a2 a3 a4 b0 b1 b2 b3 b4 : Value} (h1 : Blk W g t #[a0, a1, a2, a3, a4]) (h2 : Blk W (g + 1) t #[b0, b1, b2, b3, b4]) (hb : Below B w W) (hg : B ≤ g) (v0 v1 v2 v3 v4 u0 u1 u2 u3 u4 : Value) :
    let W' := (((((((((W.setCell ⟨g, 0, none⟩ v0).setCell ⟨g, 1, none⟩ v1).setCell ⟨g, 2, none⟩ v2).setCell ⟨g, 3, none⟩ v3).setCell ⟨g, 4, none⟩ v4).setCell ⟨g + 1, 0, none⟩ u0).setCell ⟨g + 1, 1, none⟩ u1).setCell ⟨g + 1, 2, none⟩ u2).setCell ⟨g + 1, 3, none⟩ u3).setCell ⟨g + 1, 4, none⟩ u4
    Blk W' g t #[v0, v1, v2, v3, v4] ∧ Blk W' (g + 1) t #[u0, u1, u2, u3, u4] ∧ Below B w W' ∧ W'.heap.size = W.heap.size ∧ Fl.Alike (fun b => b ≠ g ∧ b ≠ g + 1) W W' := by
  intro W'
  refine ⟨blk_set5 (blk5 h1 _ _ _ _ _) (by omega) _ _ _ _ _, blk5 (blk_set5 h2 (by omega) _ _ _ _ _) _ _ _ _ _, below_set5 (below_set5 hb hg _ _ _ _ _) (by omega) _ _ _ _ _, by simp [W'], ?_⟩
  exact ((alike_set5 W g v0 v1 v2 v3 v4).mono fun b hb => hb.1).trans_ ((alike_set5 _ (g + 1) u0 u1 u2 u3 u4).mono fun b hb => hb.2) (by simp)

set_option maxRecDepth 100000 in
set_option maxHeartbeats 2000000 in
theorem PassN (D : Option Addr) (dn dc : Nat) (A : Option Addr) (n c : Nat) (D' : Option Addr) (dn' dc' : Nat) (A' : Option Addr) (n' c' : Nat) (p q x y : Nm) (w : World) (bo : Bool) (hle : n ≤ 1000) (hle' : n' ≤ 1000) (hd : dn ≤ 100000) (hd' : dn' ≤ 100000) (hl : Lt p.l) (hl' : Lt q.l)
    (hv : NV w w.heap.size D dn dc A n c p) (hv' : NV w w.heap.size D' dn' dc' A' n' c' q) (ho : outN (passN p q) = (x, y)) (hs : (passN p q).isSome = bo) :
    Calls Try.prog 26 #[nmV p.id D dn dc p.txt A n c, nmV q.id D' dn' dc' q.txt A' n' c'] w (NPassEnd w x y bo) := by
  have HV := Lib.hid hv; have HV' := Lib.hid hv'; have HO := Lib.hid ho; have HS := Lib.hid hs; have HL := Lib.hid hl; have HL' := Lib.hid hl'
  clear hv hv' ho hs hl hl'
  go_enter Try.func26, Try.ntmps26
  go_upto_region 1 with fail
  obtain ⟨b0, b1, b2, b3, hba⟩ := four_blk w 45 45 45 45 #[.int .i64 p.id.1, .int .i64 p.id.2, .slice D dn dc, strV p.txt, .slice A n c] #[.int .i64 q.id.1, .int .i64 q.id.2, .slice D' dn' dc', strV q.txt, .slice A' n' c'] #[.int .i64 0, .int .i64 0, .slice none 0 0, .string ⟨#[]⟩, .slice none 0 0] #[.int .i64 0, .int .i64 0, .slice none 0 0, .string ⟨#[]⟩, .slice none 0 0]
  generalize ((((w.alloc (.cells #[.int .i64 p.id.1, .int .i64 p.id.2, .slice D dn dc, strV p.txt, .slice A n c] 45)).alloc (.cells #[.int .i64 q.id.1, .int .i64 q.id.2, .slice D' dn' dc', strV q.txt, .slice A' n' c'] 45)).alloc (.cells #[.int .i64 0, .int .i64 0, .slice none 0 0, .string ⟨#[]⟩, .slice none 0 0] 45)).alloc (.cells #[.int .i64 0, .int .i64 0, .slice none 0 0, .string ⟨#[]⟩, .slice none 0 0] 45)) = w1 at b0 b1 b2 b3 hba ⊢
  obtain ⟨z, hz⟩ : ∃ z, w.heap.size = z := ⟨_, rfl⟩
  rw [hz] at b0 b1 b2 b3 ⊢
  have HZ := Lib.hid hz
  have HB0 := Lib.hid b0; have HB1 := Lib.hid b1; have HB2 := Lib.hid b2; have HB3 := Lib.hid b3; have HBW := Lib.hid hba
  replace HV := Lib.hid (HV.out.mv hba); replace HV' := Lib.hid (HV'.out.mv hba)
  clear b0 b1 b2 b3 hba hz
  have x0 := HB0.out.cell 0 rfl; have x1 := HB0.out.cell 1 rfl; have y2 := HB1.out.cell 2 rfl
  have l0 := HB0.out.lt; have l1 := HB1.out.lt
  go_wp2_with fail
  obtain ⟨bm, hbm⟩ : ∃ b, decide (p.id ∈ q.deps) = b := ⟨_, rfl⟩
  refine (ContainsI p.id D' dn' dc' w1.heap.size q.deps w1 bm HV'.out.dl (by omega) (Nat.le_refl _) HV'.out.dr hbm).mono ?_
  rintro e w2 ⟨rfl, hb⟩
  have HM := Lib.hid hbm
  clear hbm x0 x1 y2 l0 l1
  replace HB0 := Lib.hid (HB0.out.below hb HB0.out.lt); replace HB1 := Lib.hid (HB1.out.below hb HB1.out.lt); replace HB2 := Lib.hid (HB2.out.below hb HB2.out.lt); replace HB3 := Lib.hid (HB3.out.below hb HB3.out.lt)
  replace HV := Lib.hid (HV.out.mv hb); replace HV' := Lib.hid (HV'.out.mv hb); replace HBW := Lib.hid (below_mv HBW.out hb)
  clear hb
  have r0 := HB2.out.cell 0 rfl; have r1 := HB2.out.cell 1 rfl; have r2 := HB2.out.cell 2 rfl; have r3 := HB2.out.cell 3 rfl; have r4 := HB2.out.cell 4 rfl
  have s0 := HB3.out.cell 0 rfl; have s1 := HB3.out.cell 1 rfl; have s2 := HB3.out.cell 2 rfl; have s3 := HB3.out.cell 3 rfl; have s4 := HB3.out.cell 4 rfl
  have f0 := HB2.out.frozen 0; have f1 := HB2.out.frozen 1; have f2 := HB2.out.frozen 2; have f3 := HB2.out.frozen 3; have f4 := HB2.out.frozen 4
  have g0 := HB3.out.frozen 0; have g1 := HB3.out.frozen 1; have g2 := HB3.out.frozen 2; have g3 := HB3.out.frozen 3; have g4 := HB3.out.frozen 4
  have x4 := HB0.out.cell 4 rfl; have y4 := HB1.out.cell 4 rfl
  have l0 := HB0.out.lt; have l1 := HB1.out.lt; have l2 := HB2.out.lt; have l3 := HB3.out.lt
  cases bm with
  | true =>
    have HE : Hid (passN p q = none) := Lib.hid (by unfold passN; rw [if_pos (of_decide_eq_true HM.out)])
    go_wp2_with fail
    have hT := two5 HB2.out HB3.out HBW.out (show w.heap.size ≤ z + 1 + 1 by have := HZ.out; omega) (.int .i64 0) (.int .i64 0) (.slice none 0 0) (.string ⟨#[]⟩) (.slice none 0 0) (.int .i64 0) (.int .i64 0) (.slice none 0 0) (.string ⟨#[]⟩) (.slice none 0 0)
    clear r0 r1 r2 r3 r4 s0 s1 s2 s3 s4 f0 f1 f2 f3 f4 g0 g1 g2 g3 g4 x4 y4 l0 l1 l2 l3
    generalize (World.setCell (World.setCell (World.setCell (World.setCell (World.setCell (World.setCell (World.setCell (World.setCell (World.setCell (World.setCell w2 ⟨z + 1 + 1, 0, none⟩ (.int .i64 0)) ⟨z + 1 + 1, 1, none⟩ (.int .i64 0)) ⟨z + 1 + 1, 2, none⟩ (.slice none 0 0)) ⟨z + 1 + 1, 3, none⟩ (.string ⟨#[]⟩)) ⟨z + 1 + 1, 4, none⟩ (.slice none 0 0)) ⟨z + 1 + 1 + 1, 0, none⟩ (.int .i64 0)) ⟨z + 1 + 1 + 1, 1, none⟩ (.int .i64 0)) ⟨z + 1 + 1 + 1, 2, none⟩ (.slice none 0 0)) ⟨z + 1 + 1 + 1, 3, none⟩ (.string ⟨#[]⟩)) ⟨z + 1 + 1 + 1, 4, none⟩ (.slice none 0 0)) = w9 at *
    obtain ⟨t1, t2, t3, t4, t5⟩ := hT
    have u0 := t1.cell 0 rfl; have u1 := t1.cell 1 rfl; have u2 := t1.cell 2 rfl; have u3 := t1.cell 3 rfl; have u4 := t1.cell 4 rfl
    have v0 := t2.cell 0 rfl; have v1 := t2.cell 1 rfl; have v2 := t2.cell 2 rfl; have v3 := t2.cell 3 rfl; have v4 := t2.cell 4 rfl
    refine bodyPost_ret (v := .tuple #[.agg #[.int .i64 0, .int .i64 0, .slice none 0 0, .string ⟨#[]⟩, .slice none 0 0], .agg #[.int .i64 0, .int .i64 0, .slice none 0 0, .string ⟨#[]⟩, .slice none 0 0], .bool false]) (by simp [results, Try.results26, go_sem, u0, u1, u2, u3, u4, v0, v1, v2, v3, v4]) rfl ?_
    exact npass_none HE.out HO.out HS.out t3
  | false =>
    have HNM : Hid (p.id ∉ q.deps) := Lib.hid (of_decide_eq_false HM.out)
    go_wp2_with fail
    obtain ⟨⟨lx, ly⟩, hol⟩ : ∃ z, outF (passF p.l q.l) = z := ⟨_, rfl⟩
    obtain ⟨bl, hbl⟩ : ∃ b, (passF p.l q.l).isSome = b := ⟨_, rfl⟩
    refine (PassLH A n c A' n' c' p.l q.l lx ly w2 bl HV.out.l HV'.out.l hle hle' HL.out HL'.out HV.out.r HV'.out.r hol hbl).mono ?_
    rintro e w3 ⟨E1, k1, E2, k2, rfl, hk1, hk2, hr1, hr2, hb⟩
    have HOL := Lib.hid hol; have HBL := Lib.hid hbl
    clear hol hbl r0 r1 r2 r3 r4 s0 s1 s2 s3 s4 f0 f1 f2 f3 f4 g0 g1 g2 g3 g4 x4 y4 l0 l1 l2 l3
    have hsw : z + 4 ≤ w2.heap.size := HB3.out.lt
    have HR1 := Lib.hid (hr1.mono fun b hb => (⟨Nat.le_trans hsw hb.1, hb.2⟩ : z + 4 ≤ b ∧ b < w3.heap.size)); have HR2 := Lib.hid (hr2.mono fun b hb => (⟨Nat.le_trans hsw hb.1, hb.2⟩ : z + 4 ≤ b ∧ b < w3.heap.size)); have HK1 := Lib.hid hk1; have HK2 := Lib.hid hk2
    replace HB0 := Lib.hid (HB0.out.below hb HB0.out.lt); replace HB1 := Lib.hid (HB1.out.below hb HB1.out.lt); replace HB2 := Lib.hid (HB2.out.below hb HB2.out.lt); replace HB3 := Lib.hid (HB3.out.below hb HB3.out.lt)
    replace HV := Lib.hid (HV.out.mv hb); replace HV' := Lib.hid (HV'.out.mv hb); replace HBW := Lib.hid (below_mv HBW.out hb)
    clear hb hr1 hr2 hk1 hk2 hsw
    have r0 := HB2.out.cell 0 rfl; have r1 := HB2.out.cell 1 rfl; have r2 := HB2.out.cell 2 rfl; have r3 := HB2.out.cell 3 rfl; have r4 := HB2.out.cell 4 rfl
    have s0 := HB3.out.cell 0 rfl; have s1 := HB3.out.cell 1 rfl; have s2 := HB3.out.cell 2 rfl; have s3 := HB3.out.cell 3 rfl; have s4 := HB3.out.cell 4 rfl
    have f0 := HB2.out.frozen 0; have f1 := HB2.out.frozen 1; have f2 := HB2.out.frozen 2; have f3 := HB2.out.frozen 3; have f4 := HB2.out.frozen 4
    have g0 := HB3.out.frozen 0; have g1 := HB3.out.frozen 1; have g2 := HB3.out.frozen 2; have g3 := HB3.out.frozen 3; have g4 := HB3.out.frozen 4
    have x4 := HB0.out.cell 4 rfl; have y4 := HB1.out.cell 4 rfl
    have l0 := HB0.out.lt; have l1 := HB1.out.lt; have l2 := HB2.out.lt; have l3 := HB3.out.lt
    cases bl with
    | false =>
      have HE : Hid (passN p q = none) := Lib.hid (by
        unfold passN
        rw [if_neg HNM.out]
        have h := HBL.out
        cases hp : passF p.l q.l with
        | none => rfl
        | some z => rw [hp] at h; cases h)
      go_wp2_with fail
      have hT := two5 HB2.out HB3.out HBW.out (show w.heap.size ≤ z + 1 + 1 by have := HZ.out; omega) (.int .i64 0) (.int .i64 0) (.slice none 0 0) (.string ⟨#[]⟩) (.slice none 0 0) (.int .i64 0) (.int .i64 0) (.slice none 0 0) (.string ⟨#[]⟩) (.slice none 0 0)
      clear r0 r1 r2 r3 r4 s0 s1 s2 s3 s4 f0 f1 f2 f3 f4 g0 g1 g2 g3 g4 x4 y4 l0 l1 l2 l3
      generalize (World.setCell (World.setCell (World.setCell (World.setCell (World.setCell (World.setCell (World.setCell (World.setCell (World.setCell (World.setCell w3 ⟨z + 1 + 1, 0, none⟩ (.int .i64 0)) ⟨z + 1 + 1, 1, none⟩ (.int .i64 0)) ⟨z + 1 + 1, 2, none⟩ (.slice none 0 0)) ⟨z + 1 + 1, 3, none⟩ (.string ⟨#[]⟩)) ⟨z + 1 + 1, 4, none⟩ (.slice none 0 0)) ⟨z + 1 + 1 + 1, 0, none⟩ (.int .i64 0)) ⟨z + 1 + 1 + 1, 1, none⟩ (.int .i64 0)) ⟨z + 1 + 1 + 1, 2, none⟩ (.slice none 0 0)) ⟨z + 1 + 1 + 1, 3, none⟩ (.string ⟨#[]⟩)) ⟨z + 1 + 1 + 1, 4, none⟩ (.slice none 0 0)) = w9 at *
      obtain ⟨t1, t2, t3, t4, t5⟩ := hT
      have u0 := t1.cell 0 rfl; have u1 := t1.cell 1 rfl; have u2 := t1.cell 2 rfl; have u3 := t1.cell 3 rfl; have u4 := t1.cell 4 rfl
      have v0 := t2.cell 0 rfl; have v1 := t2.cell 1 rfl; have v2 := t2.cell 2 rfl; have v3 := t2.cell 3 rfl; have v4 := t2.cell 4 rfl
      refine bodyPost_ret (v := .tuple #[.agg #[.int .i64 0, .int .i64 0, .slice none 0 0, .string ⟨#[]⟩, .slice none 0 0], .agg #[.int .i64 0, .int .i64 0, .slice none 0 0, .string ⟨#[]⟩, .slice none 0 0], .bool false]) (by simp [results, Try.results26, go_sem, u0, u1, u2, u3, u4, v0, v1, v2, v3, v4]) rfl ?_
      exact npass_none HE.out HO.out HS.out t3
    | true =>
      have HE : Hid (passN p q = some (⟨q.id, q.deps, q.txt, lx⟩, ⟨p.id, p.deps, p.txt, ly⟩)) := Lib.hid (by
        unfold passN
        rw [if_neg HNM.out, outF_of HOL.out HBL.out]
        rfl)
      have x0 := HB0.out.cell 0 rfl; have x1 := HB0.out.cell 1 rfl; have x2 := HB0.out.cell 2 rfl; have x3 := HB0.out.cell 3 rfl
      have y0 := HB1.out.cell 0 rfl; have y1 := HB1.out.cell 1 rfl; have y2 := HB1.out.cell 2 rfl; have y3 := HB1.out.cell 3 rfl
      go_upto_region 7 with fail
      have HSB : Hid (∀ X : World, Blk X z 45 #[.int .i64 p.id.1, .int .i64 p.id.2, .slice D dn dc, strV p.txt, .slice A n c] → Blk X (z + 1) 45 #[.int .i64 q.id.1, .int .i64 q.id.2, .slice D' dn' dc', strV q.txt, .slice A' n' c'] → X.cell? ⟨z, 0, none⟩ = some (.int .i64 p.id.1) ∧ X.cell? ⟨z, 1, none⟩ = some (.int .i64 p.id.2) ∧ X.cell? ⟨z, 2, none⟩ = some (.slice D dn dc) ∧ X.cell? ⟨z, 3, none⟩ = some (strV p.txt) ∧ X.cell? ⟨z, 4, none⟩ = some (.slice A n c) ∧ X.cell? ⟨z + 1, 0, none⟩ = some (.int .i64 q.id.1) ∧ X.cell? ⟨z + 1, 1, none⟩ = some (.int .i64 q.id.2) ∧ X.cell? ⟨z + 1, 2, none⟩ = some (.slice D' dn' dc') ∧ X.cell? ⟨z + 1, 3, none⟩ = some (strV q.txt) ∧ X.cell? ⟨z + 1, 4, none⟩ = some (.slice A' n' c')) := Lib.hid (fun X h1 h2 => ⟨h1.cell 0 rfl, h1.cell 1 rfl, h1.cell 2 rfl, h1.cell 3 rfl, h1.cell 4 rfl, h2.cell 0 rfl, h2.cell 1 rfl, h2.cell 2 rfl, h2.cell 3 rfl, h2.cell 4 rfl⟩)
      have HC : Hid (∀ X, Below w3.heap.size w3 X → X.cell? ⟨z, 0, none⟩ = some (.int .i64 p.id.1) ∧ X.cell? ⟨z, 1, none⟩ = some (.int .i64 p.id.2) ∧ X.cell? ⟨z, 2, none⟩ = some (.slice D dn dc) ∧ X.cell? ⟨z, 3, none⟩ = some (strV p.txt) ∧ X.cell? ⟨z, 4, none⟩ = some (.slice A n c) ∧ X.cell? ⟨z + 1, 0, none⟩ = some (.int .i64 q.id.1) ∧ X.cell? ⟨z + 1, 1, none⟩ = some (.int .i64 q.id.2) ∧ X.cell? ⟨z + 1, 2, none⟩ = some (.slice D' dn' dc') ∧ X.cell? ⟨z + 1, 3, none⟩ = some (strV q.txt) ∧ X.cell? ⟨z + 1, 4, none⟩ = some (.slice A' n' c')) := Lib.hid (fun X hb => HSB.out X (HB0.out.below hb HB0.out.lt) (HB1.out.below hb HB1.out.lt))
      have HD := Lib.hid (show Below w3.heap.size w3 w3.drew from below_drewN (Below.refl _ _) 1)
      have HKD := Lib.hid (HC.out w3.drew HD.out)
      have PX : Hid (∀ X, Below w3.heap.size w3 X → Calls Try.prog 48 #[nmV q.id D' dn' dc' q.txt A' n' c', .slice E1 lx.length k1] X (WithEnd X q dn' E1 lx.length k1)) := Lib.hid (fun X hb => With D' dn' dc' A' n' c' q E1 lx.length k1 X hd' HV'.out.dl (RdI.mv HV'.out.dr hb))
      have PY : Hid (∀ X, Below w3.heap.size w3 X → Calls Try.prog 48 #[nmV p.id D dn dc p.txt A n c, .slice E2 ly.length k2] X (WithEnd X p dn E2 ly.length k2)) := Lib.hid (fun X hb => With D dn dc A n c p E2 ly.length k2 X hd HV.out.dl (RdI.mv HV.out.dr hb))
      go_region_held3 (fun X => X.cell? ⟨z, 0, none⟩ = some (.int .i64 p.id.1) ∧ X.cell? ⟨z, 1, none⟩ = some (.int .i64 p.id.2) ∧ X.cell? ⟨z, 2, none⟩ = some (.slice D dn dc) ∧ X.cell? ⟨z, 3, none⟩ = some (strV p.txt) ∧ X.cell? ⟨z, 4, none⟩ = some (.slice A n c) ∧ X.cell? ⟨z + 1, 0, none⟩ = some (.int .i64 q.id.1) ∧ X.cell? ⟨z + 1, 1, none⟩ = some (.int .i64 q.id.2) ∧ X.cell? ⟨z + 1, 2, none⟩ = some (.slice D' dn' dc') ∧ X.cell? ⟨z + 1, 3, none⟩ = some (strV q.txt) ∧ X.cell? ⟨z + 1, 4, none⟩ = some (.slice A' n' c'))
        (first | (with_reducible exact HKD.out) | (with_reducible exact hS5) | (with_reducible exact hS6) | (with_reducible exact HKA.out) | (with_reducible exact HKB.out))
        (first
          | (go_at_call 48; (with_reducible refine (PX.out w3.drew HD.out).mono ?_); rintro e w5 ⟨D5, c5, rfl, hk5, hr5, hb5⟩; have hbu := HD.out.trans (hb5.mono HD.out.size); have hS5 := HC.out w5 hbu; have HU5 := Lib.hid hbu; have HR5 := Lib.hid hr5; have HK5 := Lib.hid hk5; clear hb5 hbu hr5 hk5)
          | (go_at_call 48; (with_reducible refine (PY.out w5 HU5.out).mono ?_); rintro e w6 ⟨D6, c6, rfl, hk6, hr6, hb6⟩; have hbu := HU5.out.trans (hb6.mono HU5.out.size); have hS6 := HC.out w6 hbu; have HU6 := Lib.hid hbu; have HB6 := Lib.hid hb6; have HR6 := Lib.hid hr6; have HK6 := Lib.hid hk6;
              have B0 := HB0.out.below hbu HB0.out.lt; have B1 := HB1.out.below hbu HB1.out.lt; have B2 := HB2.out.below hbu HB2.out.lt; have B3 := HB3.out.below hbu HB3.out.lt;
              have HKA := Lib.hid (HSB.out _ (blk_set5 B0 (show z ≠ z + 1 + 1 by omega) (.int .i64 q.id.1) (.int .i64 q.id.2) (.slice D5 dn' c5) (strV q.txt) (.slice E1 lx.length k1)) (blk_set5 B1 (show z + 1 ≠ z + 1 + 1 by omega) (.int .i64 q.id.1) (.int .i64 q.id.2) (.slice D5 dn' c5) (strV q.txt) (.slice E1 lx.length k1)));
              have HKB := Lib.hid (HSB.out _ (blk_set5 (blk_set5 B0 (show z ≠ z + 1 + 1 by omega) (.int .i64 q.id.1) (.int .i64 q.id.2) (.slice D5 dn' c5) (strV q.txt) (.slice E1 lx.length k1)) (show z ≠ z + 1 + 1 + 1 by omega) (.int .i64 p.id.1) (.int .i64 p.id.2) (.slice D6 dn c6) (strV p.txt) (.slice E2 ly.length k2)) (blk_set5 (blk_set5 B1 (show z + 1 ≠ z + 1 + 1 by omega) (.int .i64 q.id.1) (.int .i64 q.id.2) (.slice D5 dn' c5) (strV q.txt) (.slice E1 lx.length k1)) (show z + 1 ≠ z + 1 + 1 + 1 by omega) (.int .i64 p.id.1) (.int .i64 p.id.2) (.slice D6 dn c6) (strV p.txt) (.slice E2 ly.length k2)));
              have HB2' := Lib.hid B2; have HB3' := Lib.hid B3;
              have r0 := B2.cell 0 rfl; have r1 := B2.cell 1 rfl; have r2 := B2.cell 2 rfl; have r3 := B2.cell 3 rfl; have r4 := B2.cell 4 rfl;
              have s0 := B3.cell 0 rfl; have s1 := B3.cell 1 rfl; have s2 := B3.cell 2 rfl; have s3 := B3.cell 3 rfl; have s4 := B3.cell 4 rfl;
              have f0 := B2.frozen 0; have f1 := B2.frozen 1; have f2 := B2.frozen 2; have f3 := B2.frozen 3; have f4 := B2.frozen 4;
              have g0 := B3.frozen 0; have g1 := B3.frozen 1; have g2 := B3.frozen 2; have g3 := B3.frozen 3; have g4 := B3.frozen 4;
              have l2 := B2.lt; have l3 := B3.lt; clear hb6 hbu hr6 hk6 B0 B1 B2 B3))
      have hsz : w.heap.size = z := HZ.out
      have hz3 : z + 4 ≤ w3.heap.size := by have := HB3.out.lt; omega
      have h56 : w5.heap.size ≤ w6.heap.size := HB6.out.size
      have h35 : w3.heap.size ≤ w5.heap.size := HU5.out.size
      have hT := two5 HB2'.out HB3'.out (below_mv HBW.out HU6.out) (show w.heap.size ≤ z + 1 + 1 by omega) (.int .i64 q.id.1) (.int .i64 q.id.2) (.slice D5 dn' c5) (strV q.txt) (.slice E1 lx.length k1) (.int .i64 p.id.1) (.int .i64 p.id.2) (.slice D6 dn c6) (strV p.txt) (.slice E2 ly.length k2)
      clear r0 r1 r2 r3 r4 s0 s1 s2 s3 s4 f0 f1 f2 f3 f4 g0 g1 g2 g3 g4 x4 y4 l0 l1 l2 l3 x0 x1 x2 x3 y0 y1 y2 y3 hS5 hS6 HKA HKB HSB HC HKD PX PY
      go_wp2_with fail
      generalize (World.setCell (World.setCell (World.setCell (World.setCell (World.setCell (World.setCell (World.setCell (World.setCell (World.setCell (World.setCell w6 ⟨z + 1 + 1, 0, none⟩ (.int .i64 q.id.1)) ⟨z + 1 + 1, 1, none⟩ (.int .i64 q.id.2)) ⟨z + 1 + 1, 2, none⟩ (.slice D5 dn' c5)) ⟨z + 1 + 1, 3, none⟩ (strV q.txt)) ⟨z + 1 + 1, 4, none⟩ (.slice E1 lx.length k1)) ⟨z + 1 + 1 + 1, 0, none⟩ (.int .i64 p.id.1)) ⟨z + 1 + 1 + 1, 1, none⟩ (.int .i64 p.id.2)) ⟨z + 1 + 1 + 1, 2, none⟩ (.slice D6 dn c6)) ⟨z + 1 + 1 + 1, 3, none⟩ (strV p.txt)) ⟨z + 1 + 1 + 1, 4, none⟩ (.slice E2 ly.length k2)) = w9 at *
      obtain ⟨t1, t2, t3, t4, t5⟩ := hT
      have u0 := t1.cell 0 rfl; have u1 := t1.cell 1 rfl; have u2 := t1.cell 2 rfl; have u3 := t1.cell 3 rfl; have u4 := t1.cell 4 rfl
      have v0 := t2.cell 0 rfl; have v1 := t2.cell 1 rfl; have v2 := t2.cell 2 rfl; have v3 := t2.cell 3 rfl; have v4 := t2.cell 4 rfl
      have hv := HV.out; have hv' := HV'.out
      obtain ⟨k4, k5⟩ := passL_len passP (outF_of HOL.out HBL.out)
      have hv0 := HV.out.l; have hv1 := HV'.out.l
      have key : ∀ b, (z + 4 ≤ b ∧ b < w6.heap.size) → b ≠ z + 1 + 1 ∧ b ≠ z + 1 + 1 + 1 := fun b hb => by omega
      have up : ∀ b, (z + 4 ≤ b ∧ b < w6.heap.size) → Since w w9 b := fun b hb => ⟨by omega, by omega⟩
      have a3 : Below w3.heap.size w3 w6 := HU6.out
      have l1 := (((HR1.out.to ((alike_below a3).mono fun b hb => hb.2)).mono fun b hb => (⟨hb.1, by have := hb.2; omega⟩ : z + 4 ≤ b ∧ b < w6.heap.size)).to (t5.mono key)).mono up
      have l2 := (((HR2.out.to ((alike_below a3).mono fun b hb => hb.2)).mono fun b hb => (⟨hb.1, by have := hb.2; omega⟩ : z + 4 ≤ b ∧ b < w6.heap.size)).to (t5.mono key)).mono up
      have hd1 : w3.drew.heap.size = w3.heap.size := rfl
      have d5 := (((HR5.out.to ((alike_below HB6.out).mono fun b hb => hb.2)).mono fun b hb => (⟨by have := hb.1; omega, by have := hb.2; omega⟩ : z + 4 ≤ b ∧ b < w6.heap.size)).to (t5.mono key)).mono up
      have d6 := ((HR6.out.mono fun b hb => (⟨by have := hb.1; omega, hb.2⟩ : z + 4 ≤ b ∧ b < w6.heap.size)).to (t5.mono key)).mono up
      refine bodyPost_ret (v := .tuple #[.agg #[.int .i64 q.id.1, .int .i64 q.id.2, .slice D5 dn' c5, strV q.txt, .slice E1 lx.length k1], .agg #[.int .i64 p.id.1, .int .i64 p.id.2, .slice D6 dn c6, strV p.txt, .slice E2 ly.length k2], .bool true]) (by simp [results, Try.results26, go_sem, u0, u1, u2, u3, u4, v0, v1, v2, v3, v4]) rfl ?_
      have ho := HO.out
      have hs := HS.out
      rw [HE.out] at ho hs
      injection ho with e1 e2
      subst e1 e2 hs
      refine ⟨D5, dn', c5, E1, lx.length, k1, D6, dn, c6, E2, ly.length, k2, rfl, ⟨hv'.dl, HK5.out, hv'.dm, d5, hv'.tm, rfl, HK1.out, by unfold maxLen; omega, l1⟩, ⟨hv.dl, HK6.out, hv.dm, d6, hv.tm, rfl, HK2.out, by unfold maxLen; omega, l2⟩, t3⟩

end Tg
end Go.Proofs.Ytdnkinajbebkoaa

set_option maxRecDepth 100000
namespace Go.Proofs.Ytdnkinajbebkoaa
open Go.RowKit
set_option linter.unusedVariables false
namespace Cut2
open Tx Df Sq Hk Tr Pr

theorem bel0 (w : World) : Below w.heap.size w w := Below.refl _ _
theorem bel1 (w : World) (o : Obj) : Below w.heap.size w (w.alloc o) := (Below.refl _ _).alloc (Nat.le_refl _) _
theorem bel2 (w : World) (o o' : Obj) : Below w.heap.size w ((w.alloc o).alloc o') := ((Below.refl _ _).alloc (Nat.le_refl _) _).alloc (by simp) _
theorem belD0 (w : World) : Below w.heap.size w w.drew := below_drewN (bel0 w) 1
theorem belD1 (w : World) (o : Obj) : Below w.heap.size w (w.alloc o).drew := below_drewN (bel1 w o) 1
theorem belD2 (w : World) (o o' : Obj) : Below w.heap.size w ((w.alloc o).alloc o').drew := below_drewN (bel2 w o o') 1
theorem thr {w W u : World} (h : Below w.heap.size w W) (hb : Below W.heap.size W u) : Below w.heap.size w u := h.trans (hb.mono h.size)
theorem thrD0 {w u : World} (hb : Below w.drew.heap.size w.drew u) : Below w.heap.size w u := thr (belD0 w) hb
theorem thrD1 {w u : World} {o : Obj} (hb : Below (w.alloc o).drew.heap.size (w.alloc o).drew u) : Below w.heap.size w u := thr (belD1 w o) hb
theorem thrD2 {w u : World} {o o' : Obj} (hb : Below ((w.alloc o).alloc o').drew.heap.size ((w.alloc o).alloc o').drew u) : Below w.heap.size w u := thr (belD2 w o o') hb
theorem newD1 {w u : World} {t : TypeId} {cs : Array Value} (hb : Below (w.alloc (.cells cs t)).drew.heap.size (w.alloc (.cells cs t)).drew u) : Blk u w.heap.size t cs := ((Blk.new w t cs).drewN 1).below hb (show w.heap.size < (w.alloc (.cells cs t)).heap.size by simp)
theorem newD2 {w u : World} {t t' : TypeId} {cs cs' : Array Value} (hb : Below ((w.alloc (.cells cs t)).alloc (.cells cs' t')).drew.heap.size ((w.alloc (.cells cs t)).alloc (.cells cs' t')).drew u) : Blk u w.heap.size t cs ∧ Blk u (w.heap.size + 1) t' cs' := by
  have h2 := Blk.new (w.alloc (.cells cs t)) t' cs'
  simp only [World.size_alloc] at h2
  exact ⟨(((Blk.new w t cs).alloc (.cells cs' t')).drewN 1).below hb (show w.heap.size < ((w.alloc (.cells cs t)).alloc (.cells cs' t')).heap.size by simp; omega), (h2.drewN 1).below hb (show w.heap.size + 1 < ((w.alloc (.cells cs t)).alloc (.cells cs' t')).heap.size by simp)⟩

/-- Where two changes lie, made since w. -/
def Lay (w W : World) (T U : Nat) (x y : Array Value) : Prop := Blk W T 54 x ∧ Blk W U 54 y ∧ w.heap.size ≤ T ∧ w.heap.size ≤ U ∧ Below w.heap.size w W
section
variable {w u : World} {T U X Y : Nat} {x0 x1 x2 x3 x4 x5 y0 y1 y2 y3 y4 y5 : Value}
theorem Lay.swap {W : World} {x y : Array Value} (h : Lay w W T U x y) : Lay w W U T y x := ⟨h.2.1, h.1, h.2.2.2.1, h.2.2.1, h.2.2.2.2⟩
theorem lay_aa (hw : Below w.heap.size w u) : Lay w ((u.alloc (.cells #[x0, x1, x2, x3, x4, x5] 54)).alloc (.cells #[y0, y1, y2, y3, y4, y5] 54)) u.heap.size (u.heap.size + 1) #[x0, x1, x2, x3, x4, x5] #[y0, y1, y2, y3, y4, y5] := by
  have h2 := Blk.new (u.alloc (.cells #[x0, x1, x2, x3, x4, x5] 54)) 54 #[y0, y1, y2, y3, y4, y5]
  simp only [World.size_alloc] at h2
  exact ⟨(Blk.new u _ _).alloc _, h2, hw.size, Nat.le_succ_of_le hw.size, hw.trans ((bel2 u _ _).mono hw.size)⟩
theorem size_set6 (W : World) (b : Nat) (v0 v1 v2 v3 v4 v5 : Value) : ((((((W.setCell ⟨b, 0, none⟩ v0).setCell ⟨b, 1, none⟩ v1).setCell ⟨b, 2, none⟩ v2).setCell ⟨b, 3, none⟩ v3).setCell ⟨b, 4, none⟩ v4).setCell ⟨b, 5, none⟩ v5).heap.size = W.heap.size := by simp
theorem bel_set6 {N b : Nat} {W : World} (h : Below N w W) (hb : N ≤ b) (v0 v1 v2 v3 v4 v5 : Value) : Below N w ((((((W.setCell ⟨b, 0, none⟩ v0).setCell ⟨b, 1, none⟩ v1).setCell ⟨b, 2, none⟩ v2).setCell ⟨b, 3, none⟩ v3).setCell ⟨b, 4, none⟩ v4).setCell ⟨b, 5, none⟩ v5) :=
  (((((h.setCell (p := ⟨b, 0, none⟩) hb v0).setCell (p := ⟨b, 1, none⟩) hb v1).setCell (p := ⟨b, 2, none⟩) hb v2).setCell (p := ⟨b, 3, none⟩) hb v3).setCell (p := ⟨b, 4, none⟩) hb v4).setCell (p := ⟨b, 5, none⟩) hb v5
theorem lay_sa (hw : Below w.heap.size w u) (hX : Blk u X 54 #[.int .i64 0, strV [], strV [], .int .i64 0, .slice none 0 0, .slice none 0 0]) (hle : w.heap.size ≤ X) :
    Lay w (((((((u.setCell ⟨X, 0, none⟩ x0).setCell ⟨X, 1, none⟩ x1).setCell ⟨X, 2, none⟩ x2).setCell ⟨X, 3, none⟩ x3).setCell ⟨X, 4, none⟩ x4).setCell ⟨X, 5, none⟩ x5).alloc (.cells #[y0, y1, y2, y3, y4, y5] 54)) X u.heap.size #[x0, x1, x2, x3, x4, x5] #[y0, y1, y2, y3, y4, y5] := by
  have h2 := Blk.new ((((((u.setCell ⟨X, 0, none⟩ x0).setCell ⟨X, 1, none⟩ x1).setCell ⟨X, 2, none⟩ x2).setCell ⟨X, 3, none⟩ x3).setCell ⟨X, 4, none⟩ x4).setCell ⟨X, 5, none⟩ x5) 54 #[y0, y1, y2, y3, y4, y5]
  rw [size_set6] at h2
  have hb := bel_set6 hw hle x0 x1 x2 x3 x4 x5
  exact ⟨(blk6 hX _ _ _ _ _ _).alloc _, h2, hle, hw.size, hb.alloc hb.size _⟩
theorem lay_ss (hw : Below w.heap.size w u) (hX : Blk u X 54 #[.int .i64 0, strV [], strV [], .int .i64 0, .slice none 0 0, .slice none 0 0]) (hY : Blk u Y 54 #[.int .i64 0, strV [], strV [], .int .i64 0, .slice none 0 0, .slice none 0 0]) (hne : X ≠ Y) (hle : w.heap.size ≤ X) (hle' : w.heap.size ≤ Y) :
    Lay w ((((((((((((u.setCell ⟨X, 0, none⟩ x0).setCell ⟨X, 1, none⟩ x1).setCell ⟨X, 2, none⟩ x2).setCell ⟨X, 3, none⟩ x3).setCell ⟨X, 4, none⟩ x4).setCell ⟨X, 5, none⟩ x5).setCell ⟨Y, 0, none⟩ y0).setCell ⟨Y, 1, none⟩ y1).setCell ⟨Y, 2, none⟩ y2).setCell ⟨Y, 3, none⟩ y3).setCell ⟨Y, 4, none⟩ y4).setCell ⟨Y, 5, none⟩ y5) X Y #[x0, x1, x2, x3, x4, x5] #[y0, y1, y2, y3, y4, y5] := by
  obtain ⟨z2, z3⟩ := two_set6 hX hY hne x0 x1 x2 x3 x4 x5 y0 y1 y2 y3 y4 y5
  exact ⟨z2, z3, hle, hle', below_set12 hw hle hle' _ _ _ _ _ _ _ _ _ _ _ _⟩
end

end Cut2
end Go.Proofs.Ytdnkinajbebkoaa

set_option maxRecDepth 100000
namespace Go.Proofs.Ytdnkinajbebkoaa
open Go.RowKit
set_option linter.unusedVariables false
set_option linter.unusedSimpArgs false
namespace Fl
open Tx Df Sq Hk Tr Pr

/-- Changes that are read, wherever their cells are; their lines in blocks that N names. -/
def SrcN (W : World) (N : Nat → Prop) (A : Option Addr) (l : List Ch) : Prop := ∃ ys : List Value, ys.length = l.length * 6 ∧ PCells W N l ys ∧ (ys = [] ∨ ∃ a, A = some a ∧ ∀ (j : Nat) u, ys[j]? = some u → W.cell? (a.add j) = some u)
theorem SrcN.below {W W' : World} {N : Nat → Prop} {A : Option Addr} {l : List Ch} (h : SrcN W N A l) (hb : Below W.heap.size W W') : SrcN W' N A l := by
  obtain ⟨ys, h1, h2, h3⟩ := h
  exact ⟨ys, h1, h2.kc (keepC_below hb), h3.imp id fun ⟨a, e, h⟩ => ⟨a, e, fun j u hu => (keepC_below (S := fun _ => True) hb).cell trivial (h j u hu)⟩⟩
theorem srcN_own {W : World} {N : Nat → Prop} {base n c : Nat} {A : Option Addr} {l : List Ch} (h : OwnS W N base (.slice A n c) l) : SrcN W N A l := by
  obtain ⟨xs, hr, hF⟩ := h
  refine ⟨xs, hr.1, hF, ?_⟩
  rcases hr.2 with ⟨_, h0⟩ | ⟨g, cap, cur, e, _⟩
  · refine .inl (List.eq_nil_of_length_eq_zero ?_)
    rw [hr.1, h0]
  · injection e with e1 e2 e3
    subst e1
    refine .inr ⟨_, rfl, fun j u hu => ?_⟩
    have ea : (⟨g, 0, none⟩ : Addr).add j = ⟨g, j, none⟩ := by unfold Addr.add; split <;> simp_all
    have e2' : n = l.length := e2
    subst e2'
    rw [ea, hr.cellAt j (by have := (List.getElem?_eq_some_iff.1 hu).1; rw [hr.1] at this; exact this)]
    exact hu
theorem OwnS.base {W : World} {S : Nat → Prop} {base base' : Nat} {v : Value} {l : List Ch} (h : OwnS W S base v l) (hb : base' ≤ base) : OwnS W S base' v l := by
  obtain ⟨xs, h1, h2⟩ := h
  exact ⟨xs, own_mono h1 hb, h2⟩

theorem ownS_nil (W : World) (S : Nat → Prop) (base : Nat) : OwnS W S base (.slice none 0 0) [] := ⟨[], World.ownsRow_nil _ _ _ _, PCells.nil _ _ _⟩
/-- Where a row of one's own lies. -/
theorem ownS_addr {W : World} {S : Nat → Prop} {base : Nat} {v : Value} {l : List Ch} (h : OwnS W S base v l) (h0 : 0 < l.length) : ∃ g cap, v = .slice (some ⟨g, 0, none⟩) l.length cap ∧ base ≤ g ∧ g < W.heap.size := by
  obtain ⟨xs, hr, hF⟩ := h
  rcases hr.2 with ⟨rfl, h1⟩ | ⟨g, cap, cur, rfl, hbg, hg, hc, _⟩
  · omega
  · exact ⟨g, cap, rfl, hbg, (Array.getElem?_eq_some_iff.1 hg).1⟩
/-- Changes appended onto a row of one's own; their lines lie in blocks that S names, ahead of the row. -/
theorem run_ownC {W : World} {S : Nat → Prop} {base : Nat} {v : Value} {l u : List Ch} {ty : TypeId} {m c : Nat} {A : Option Addr} {ys : List Value} (h : OwnS W S base v l) (hu : PCells W S u ys) (hyl : ys.length = u.length * 6) (hsrc : ys = [] ∨ ∃ a, A = some a ∧ ∀ (j : Nat) x, ys[j]? = some x → W.cell? (a.add j) = some x)
    (hm : u.length = m) (hn : l.length + m ≤ 100000) (hN : ∀ b, S b → b < base) (hbase : base ≤ W.heap.size) :
    ∃ v' W', (Builtin.append_ #[43, 43] ty #[v, .slice A m c]).run Try.prog W = .ok v' W' ∧ OwnS W' S base v' (l ++ u) ∧ W.grownBy W' v.ownBlock := by
  obtain ⟨i0, hi0, hz0, hz1, hz2⟩ := info_parts info_prim
  obtain ⟨A0, c0, hv0, hc0⟩ := ownS_slice h
  obtain ⟨xs, hrow, hF⟩ := h
  have h1 := one6 hu hyl
  by_cases h0 : m = 0
  · have hu0 : u = [] := List.eq_nil_of_length_eq_zero (by omega)
    subst hu0 hv0
    subst h0
    exact ⟨_, W, run_append_none Try.underlying43 hi0 hc0, by rw [List.append_nil]; exact ⟨xs, hrow, hF⟩, ⟨rfl, rfl, rfl, Nat.le_refl _, fun _ _ _ => rfl⟩⟩
  · obtain ⟨a, rfl, hcell⟩ : ∃ a, A = some a ∧ ∀ (j : Nat) x, ys[j]? = some x → W.cell? (a.add j) = some x := by
      rcases hsrc with hy | h
      · rw [hy] at hyl; simp at hyl; omega
      · exact h
    obtain ⟨g, cap, W', hr, r1, r2, r3, r4⟩ := run_append_lies (P := Try.prog) (w := W) 43 ty base 54 i0 _ 6 96 Try.underlying43 hi0 hz0 hz1 hz2 rfl (by decide) v l.length xs hrow a m c ys (by rw [hyl, hm]) hcell h1 (by omega) (by unfold maxLen; omega) (by omega) hbase W.heap.size rfl
    refine ⟨_, W', hr, ⟨xs ++ ys, by rw [List.length_append, hm]; exact r1, ?_⟩, r2⟩
    exact (hF.append hrow.1 hu).to ((alike_gr r2).mono fun b hb e => by have := own_ge hrow b e.symm; have := hN b hb; omega)
theorem wpList_ownC {W : World} {ops : Array Oper} {rest : List Oper} {o : Oper} {a : Act} {Q : Exit → Act → World → Prop} (hgd : o.guard = none) (s x : Operand)
    (ho : o.op = .call { callee := .builtin .append, args := #[s, x], argTypes := #[43, 43] })
    (S : Nat → Prop) (base m c : Nat) (v : Value) (A : Option Addr) (l u : List Ch) (ys : List Value) (hs : a.eval s = v) (hx : a.eval x = .slice A m c) (h : OwnS W S base v l) (hu : PCells W S u ys) (hyl : ys.length = u.length * 6) (hsrc : ys = [] ∨ ∃ a, A = some a ∧ ∀ (j : Nat) x, ys[j]? = some x → W.cell? (a.add j) = some x)
    (hm : u.length = m) (hn : l.length + m ≤ 100000) (hN : ∀ b, S b → b < base) (hbase : base ≤ W.heap.size)
    (hK : ∀ v' W', OwnS W' S base v' (l ++ u) → W.grownBy W' v.ownBlock → wpList Try.prog ops Q rest (a.put o.dst v') W') : wpList Try.prog ops Q (o :: rest) a W := by
  refine wpList_plain hgd fun K hK' => ?_
  obtain ⟨v', W', hrun, h2, h3⟩ := run_ownC (ty := o.type) (c := c) h hu hyl hsrc hm hn hN hbase
  unfold Oper.wp execOp
  simp only [ho, resolve, invoke, builtin, Sem.run_bind, Sem.run_pure, Result.andThen_ok, List.map_toArray, List.map_cons, List.map_nil, hs, hx, hrun]
  exact hK' _ _ (hK v' W' h2 h3)

/-- How a call of one ends. -/
def OneEnd (w : World) (N : Nat → Prop) (D : Option Addr) (m k : Nat) (D' : Option Addr) (m' k' : Nat) (o : Option (Ch × List Ch)) (e : Ending) (w' : World) : Prop :=
  (∀ z, o = some z → ∃ v, e = .returned (.tuple #[prV z.1.k z.1.nm z.1.to z.1.h.pos D m k D' m' k', v, .bool true]) ∧ OwnS w' N w.heap.size v z.2 ∧ PG w' N D m k D' m' k' z.1) ∧
  (o = none → e = .returned (.tuple #[.agg #[.int .i64 0, strV [], strV [], .int .i64 0, .slice none 0 0, .slice none 0 0], .slice none 0 0, .bool false])) ∧ Below w.heap.size w w'

/-- Between two rounds of one: x is q ahead of those from place j on, which are post. -/
structure OneInv (W : World) (N : Nat → Prop) (gq : Nat) (A1 : Option Addr) (n c1 : Nat) (D : Option Addr) (m k : Nat) (D' : Option Addr) (m' k' : Nat) (a : List Ch) (q : Ch) (j : Nat) (x : Ch) (post : List Ch) : Prop where
  on : one passP (a.drop j) q = some (x, post)
  row : OwnS W N (gq + 2) (.slice A1 n c1) (a.take j ++ post)
  bq : Blk W gq 54 #[.int .i64 x.k, strV x.nm, strV x.to, .int .i64 x.h.pos, .slice D m k, .slice D' m' k']
  br : Blk W (gq + 1) 54 #[.int .i64 0, strV [], strV [], .int .i64 0, .slice none 0 0, .slice none 0 0]
  pg : PG W N D m k D' m' k' x
  lt : lightP x = true
theorem oneInv_start {W : World} {N : Nat → Prop} {gq : Nat} {A1 : Option Addr} {n c1 : Nat} {D : Option Addr} {m k : Nat} {D' : Option Addr} {m' k' : Nat} {a : List Ch} {q : Ch} (hn : a.length = n) (ho : OwnS W N (gq + 2) (.slice A1 n c1) a)
    (h1 : Blk W gq 54 #[.int .i64 q.k, strV q.nm, strV q.to, .int .i64 q.h.pos, .slice D m k, .slice D' m' k']) (h2 : Blk W (gq + 1) 54 #[.int .i64 0, strV [], strV [], .int .i64 0, .slice none 0 0, .slice none 0 0]) (hp : PG W N D m k D' m' k' q) (hq : lightP q = true) :
    OneInv W N gq A1 n c1 D m k D' m' k' a q n q [] :=
  ⟨by rw [List.drop_of_length_le (by omega)]; rfl, by rw [List.take_of_length_le (by omega), List.append_nil]; exact ho, h1, h2, hp, hq⟩

theorem OneInv.len {W : World} {N : Nat → Prop} {gq : Nat} {A1 : Option Addr} {n c1 : Nat} {D : Option Addr} {m k : Nat} {D' : Option Addr} {m' k' : Nat} {a : List Ch} {q : Ch} {j : Nat} {x : Ch} {post : List Ch} (h : OneInv W N gq A1 n c1 D m k D' m' k' a q j x post) (hn : a.length = n) (hj : j ≤ n) : (a.take j ++ post).length = n :=
  len_mid (by rw [one_len passP h.on, List.length_drop]; omega) hn
theorem oneEnd_none {w W : World} {N : Nat → Prop} {D : Option Addr} {m k : Nat} {D' : Option Addr} {m' k' : Nat} {o : Option (Ch × List Ch)} (ho : o = none) (hb : Below w.heap.size w W) :
    OneEnd w N D m k D' m' k' o (.returned (.tuple #[.agg #[.int .i64 0, strV [], strV [], .int .i64 0, .slice none 0 0, .slice none 0 0], .slice none 0 0, .bool false])) W :=
  ⟨fun z h => (by rw [ho] at h; cases h), fun _ => rfl, hb⟩
theorem oneEnd_some {w wr : World} {N : Nat → Prop} {gq : Nat} {A1 : Option Addr} {n c1 : Nat} {D : Option Addr} {m k : Nat} {D' : Option Addr} {m' k' : Nat} {a : List Ch} {q x : Ch} {post : List Ch} (hI : OneInv wr N gq A1 n c1 D m k D' m' k' a q 0 x post) (hg : gq = w.heap.size) (hN : ∀ b, N b → b < gq) (hb : Below gq w wr) (v0 v1 v2 v3 v4 v5 : Value) :
    OneEnd w N D m k D' m' k' (one passP a q) (.returned (.tuple #[.agg #[.int .i64 x.k, strV x.nm, strV x.to, .int .i64 x.h.pos, .slice D m k, .slice D' m' k'], .slice A1 n c1, .bool true]))
      ((((((wr.setCell ⟨gq + 1, 0, none⟩ v0).setCell ⟨gq + 1, 1, none⟩ v1).setCell ⟨gq + 1, 2, none⟩ v2).setCell ⟨gq + 1, 3, none⟩ v3).setCell ⟨gq + 1, 4, none⟩ v4).setCell ⟨gq + 1, 5, none⟩ v5) := by
  have hon := hI.on
  have hrow := hI.row
  rw [List.drop_zero] at hon
  rw [List.take_zero, List.nil_append] at hrow
  have hne : some (gq + 1) ≠ (Value.slice A1 n c1).ownBlock := fun e => by have := ownS_ge hrow _ e.symm; omega
  subst hg
  refine ⟨fun z h => ?_, fun h => (by rw [hon] at h; cases h), below_set6 hb (Nat.le_succ _) v0 v1 v2 v3 v4 v5⟩
  rw [hon] at h
  injection h with h
  subst h
  exact ⟨_, rfl, (hrow.set6 hne (fun h => by have := hN _ h; omega) v0 v1 v2 v3 v4 v5).base (Nat.le_add_right _ 2), hI.pg.to_ ((alike_set6 wr _ v0 v1 v2 v3 v4 v5).mono fun b hb e => by subst e; have := hN _ hb; omega)⟩
theorem oneInv_step {wr wc : World} {N : Nat → Prop} {gq g i : Nat} {n c1 : Nat} {D : Option Addr} {m k : Nat} {D' : Option Addr} {m' k' : Nat} {a : List Ch} {q x p x' y' : Ch} {post : List Ch} {B : Option Addr} {r s : Nat} {B' : Option Addr} {r' s' : Nat}
    (hI : OneInv wr N gq (some ⟨g, 0, none⟩) n c1 D m k D' m' k' a q (i + 1) x post) (hn : a.length = n) (hx : a[i]? = some p) (hp : passP p x = some (x', y')) (hlp : lightP p = true) (hN : ∀ b, N b → b < gq) (hb : Below wr.heap.size wr wc) (hv : PG wr N B r s B' r' s' p) :
    OneInv ((((((((((((wc.setCell ⟨gq, 0, none⟩ (.int .i64 x'.k)).setCell ⟨gq, 1, none⟩ (strV x'.nm)).setCell ⟨gq, 2, none⟩ (strV x'.to)).setCell ⟨gq, 3, none⟩ (.int .i64 x'.h.pos)).setCell ⟨gq, 4, none⟩ (.slice D m k)).setCell ⟨gq, 5, none⟩ (.slice D' m' k')).setCell ⟨g, i * 6, none⟩ (.int .i64 y'.k)).setCell ⟨g, i * 6 + 1, none⟩ (strV y'.nm)).setCell ⟨g, i * 6 + 2, none⟩ (strV y'.to)).setCell ⟨g, i * 6 + 3, none⟩ (.int .i64 y'.h.pos)).setCell ⟨g, i * 6 + 4, none⟩ (.slice B r s)).setCell ⟨g, i * 6 + 5, none⟩ (.slice B' r' s'))
      N gq (some ⟨g, 0, none⟩) n c1 D m k D' m' k' a q i x' (y' :: post) := by
  have hi : i < n := by have := (List.getElem?_eq_some_iff.1 hx).1; omega
  have hlen := hI.len hn (by omega)
  have hgg : gq + 2 ≤ g := ownS_ge hI.row g rfl
  have way := (passP_way hp).2.2
  have hl2 := passP_lt hp hlp hI.lt
  have hrow := (hI.row.below hb).set6 (b := gq) (fun e => by injection e with e; have e : gq = g := e; omega) (fun h => by have := hN _ h; omega) (.int .i64 x'.k) (strV x'.nm) (strV x'.to) (.int .i64 x'.h.pos) (.slice D m k) (.slice D' m' k')
  have al6 := alike_set6 wc gq (.int .i64 x'.k) (strV x'.nm) (strV x'.to) (.int .i64 x'.h.pos) (.slice D m k) (.slice D' m' k')
  have hNs : ∀ b, N b → b < wr.heap.size := fun b h => Nat.lt_trans (hN b h) hI.bq.lt
  have pv := (way_pg2 way (hv.to_ ((alike_below hb).mono hNs)) hI.pg.to).to_ (al6.mono fun b (hb : N b) e => by subst e; have := hN _ hb; omega)
  have px := (way_pg1 way (hI.pg.to_ ((alike_below hb).mono hNs)) hv.nm).to_ (al6.mono fun b (hb : N b) e => by subst e; have := hN _ hb; omega)
  have b1 := blk6 (hI.bq.below hb hI.bq.lt) (.int .i64 x'.k) (strV x'.nm) (strV x'.to) (.int .i64 x'.h.pos) (.slice D m k) (.slice D' m' k')
  have b2 := blk_set6 (hI.br.below hb hI.br.lt) (show gq + 1 ≠ gq by omega) (.int .i64 x'.k) (strV x'.nm) (strV x'.to) (.int .i64 x'.h.pos) (.slice D m k) (.slice D' m' k')
  have hst := hrow.store (k := i) hlen (fun h => by have := hN _ h; omega) pv
  rw [set_mid hx] at hst
  exact ⟨one_step passP hx hI.on hp, hst, blk_row6 b1 (by omega) i _ _ _ _ _ _, blk_row6 b2 (by omega) i _ _ _ _ _ _, px.to_ ((alike_row6 _ g i _ _ _ _ _ _).mono fun b (hb : N b) e => by subst e; have := hN _ hb; omega), hl2.1⟩

set_option maxRecDepth 100000 in
set_option maxHeartbeats 16000000 in
theorem refOne (N : Nat → Prop) (A : Option Addr) (n c : Nat) (D : Option Addr) (m k : Nat) (D' : Option Addr) (m' k' : Nat) (a : List Ch) (q : Ch) (w : World) (hn : a.length = n) (hle : n ≤ 1000) (hN : ∀ b, N b → b < w.heap.size) (ha : Lt a) (hq : lightP q = true)
    (hS : SrcN w N A a) (hv : PG w N D m k D' m' k' q) :
    Calls Try.prog 76 #[.slice A n c, prV q.k q.nm q.to q.h.pos D m k D' m' k'] w (OneEnd w N D m k D' m' k' (one passP a q)) := by
  have HN := Lib.hid hn; have HA := Lib.hid ha; have HQ := Lib.hid hq
  have hbw := two_box w (.cells #[.int .i64 q.k, strV q.nm, strV q.to, .int .i64 q.h.pos, .slice D m k, .slice D' m' k'] 54) (.cells #[.int .i64 0, strV [], strV [], .int .i64 0, .slice none 0 0, .slice none 0 0] 54)
  have b1 := (Blk.new w 54 #[.int .i64 q.k, strV q.nm, strV q.to, .int .i64 q.h.pos, .slice D m k, .slice D' m' k']).alloc (.cells #[.int .i64 0, strV [], strV [], .int .i64 0, .slice none 0 0, .slice none 0 0] 54)
  have b2 := Blk.new (w.alloc (.cells #[.int .i64 q.k, strV q.nm, strV q.to, .int .i64 q.h.pos, .slice D m k, .slice D' m' k'] 54)) 54 #[.int .i64 0, strV [], strV [], .int .i64 0, .slice none 0 0, .slice none 0 0]
  simp only [World.size_alloc] at b2
  obtain ⟨ys, hy1, hy2, hy3⟩ := hS.below hbw
  have Y1 := Lib.hid hy1; have Y2 := Lib.hid hy2; have Y3 := Lib.hid hy3
  have HV := Lib.hid (hv.to_ ((alike_below hbw).mono hN))
  have hsz : ((w.alloc (.cells #[.int .i64 q.k, strV q.nm, strV q.to, .int .i64 q.h.pos, .slice D m k, .slice D' m' k'] 54)).alloc (.cells #[.int .i64 0, strV [], strV [], .int .i64 0, .slice none 0 0, .slice none 0 0] 54)).heap.size = w.heap.size + 2 := by simp
  have HBW := Lib.hid hbw; have HB1 := Lib.hid b1; have HB2 := Lib.hid b2; have HSZ := Lib.hid hsz
  clear hn ha hq hS hv hy1 hy2 hy3 hbw b1 b2 hsz
  go_enter Try.func76, Try.ntmps76
  go_upto_region 1 with fail
  generalize ((w.alloc (.cells #[.int .i64 q.k, strV q.nm, strV q.to, .int .i64 q.h.pos, .slice D m k, .slice D' m' k'] 54)).alloc (.cells #[.int .i64 0, strV [], strV [], .int .i64 0, .slice none 0 0, .slice none 0 0] 54)) = w0 at *
  obtain ⟨gq, hgq⟩ : ∃ g, w.heap.size = g := ⟨_, rfl⟩
  rw [hgq] at HB1 HB2 HSZ HBW ⊢
  have HGQ := Lib.hid hgq
  have hN' : ∀ b, N b → b < gq := by rw [← hgq]; exact hN
  have HNN := Lib.hid hN'
  clear hgq hN hN'
  go_wp2_with (at_builtin; refine wpList_ownC rfl (.const (.slice none 0 0)) (.tmp 12) rfl N w0.heap.size n c (.slice none 0 0) A [] a ys rfl rfl (ownS_nil _ _ _) Y2.out Y1.out Y3.out HN.out (by simp; omega) (fun b h => by have := HNN.out b h; rw [HSZ.out]; omega) (Nat.le_refl _) ?_; intro v w1 ho hg; replace HB1 := Lib.hid (HB1.out.gr hg (nn _)); replace HB2 := Lib.hid (HB2.out.gr hg (nn _)); replace HBW := Lib.hid (HBW.out.trans ((below_gr hg).mono (by rw [HSZ.out]; omega))); replace HV := Lib.hid (HV.out.to_ ((alike_gr hg).mono (fun b _ => nn b))); have HO := Lib.hid (show OwnS w1 N w0.heap.size v a from ho); clear ho hg; obtain ⟨A1, c1, hv1, hc1⟩ : ∃ A1 c1, v = .slice A1 n c1 ∧ n ≤ c1 := (ownS_slice HO.out).elim fun A1 h => h.elim fun c1 h => ⟨A1, c1, by rw [← HN.out]; exact h.1, by rw [← HN.out]; exact h.2⟩; subst hv1)
  clear Y1 Y2 Y3
  have hrow : gq + 2 = w0.heap.size := HSZ.out.symm
  rw [← hrow] at HO
  clear hrow HSZ
  go_loopw [8] (fun i wr => ∃ (j : Nat) (x : Ch) (post : List Ch), j ≤ n ∧ i = .int .i64 ((j : Int) - 1) ∧ OneInv wr N gq A1 n c1 D m k D' m' k' a q j x post ∧ Below gq w wr) (fun i _ => (intOf i + 1).toNat)
  case atStart => exact ⟨n, q, [], Nat.le_refl _, rfl, oneInv_start HN.out HO.out HB1.out HB2.out HV.out HQ.out, HBW.out⟩
  case round =>
    clear HO HB1 HB2 HV HBW
    obtain ⟨j, x, post, hj, rfl, hI, hbw⟩ := hrel
    have HBW := Lib.hid hbw; have HI := Lib.hid hI
    clear hbw hI
    have HE : Hid (gq = w.heap.size) := Lib.hid HGQ.out.symm
    by_cases h0 : j = 0
    · subst h0
      have ez : (((0 : Nat) : Int) - 1) = -1 := rfl
      rw [ez]; clear ez
      have hB1 := HI.out.bq; have hB2 := HI.out.br
      have x0 := hB1.cell 0 rfl; have x1 := hB1.cell 1 rfl; have x2 := hB1.cell 2 rfl; have x3 := hB1.cell 3 rfl; have x4 := hB1.cell 4 rfl; have x5 := hB1.cell 5 rfl
      have z0 := hB2.cell 0 rfl; have z1 := hB2.cell 1 rfl; have z2 := hB2.cell 2 rfl; have z3 := hB2.cell 3 rfl; have z4 := hB2.cell 4 rfl; have z5 := hB2.cell 5 rfl
      have f0 := hB2.frozen 0; have f1 := hB2.frozen 1; have f2 := hB2.frozen 2; have f3 := hB2.frozen 3; have f4 := hB2.frozen 4; have f5 := hB2.frozen 5
      have hlt := hB2.lt
      have HB3 := Lib.hid (blk6 hB2 (.int .i64 x.k) (strV x.nm) (strV x.to) (.int .i64 x.h.pos) (.slice D m k) (.slice D' m' k'))
      clear hB1 hB2
      go_wp2_with fail
      have hoe := oneEnd_some HI.out HE.out HNN.out HBW.out (.int .i64 x.k) (strV x.nm) (strV x.to) (.int .i64 x.h.pos) (.slice D m k) (.slice D' m' k')
      have b6 := HB3.out
      generalize (World.setCell (World.setCell (World.setCell (World.setCell (World.setCell (World.setCell wr ⟨gq + 1, 0, none⟩ (.int .i64 x.k)) ⟨gq + 1, 1, none⟩ (strV x.nm)) ⟨gq + 1, 2, none⟩ (strV x.to)) ⟨gq + 1, 3, none⟩ (.int .i64 x.h.pos)) ⟨gq + 1, 4, none⟩ (.slice D m k)) ⟨gq + 1, 5, none⟩ (.slice D' m' k')) = W9 at *
      have HOE := Lib.hid hoe
      clear hoe x0 x1 x2 x3 x4 x5 z0 z1 z2 z3 z4 z5 f0 f1 f2 f3 f4 f5 hlt
      have u0 := b6.cell 0 rfl; have u1 := b6.cell 1 rfl; have u2 := b6.cell 2 rfl; have u3 := b6.cell 3 rfl; have u4 := b6.cell 4 rfl; have u5 := b6.cell 5 rfl
      refine bodyPost_ret (v := .tuple #[.agg #[.int .i64 x.k, strV x.nm, strV x.to, .int .i64 x.h.pos, .slice D m k, .slice D' m' k'], .slice A1 n c1, .bool true]) (by simp [results, Try.results76, go_sem, u0, u1, u2, u3, u4, u5]) rfl ?_
      exact HOE.out
    · obtain ⟨i, rfl⟩ : ∃ i, j = i + 1 := ⟨j - 1, by omega⟩
      have ei : ((i + 1 : Nat) : Int) - 1 = (i : Int) := by omega
      rw [ei]; clear ei h0
      have hin : i < n := by omega
      have hki : (i : Int) < (n : Int) := by omega
      obtain ⟨p, hx⟩ : ∃ p, a[i]? = some p := ⟨_, List.getElem?_eq_getElem (by rw [HN.out]; exact hin)⟩
      obtain ⟨g, cap, hv, hgg, hg2⟩ := ownS_addr HI.out.row (by rw [HI.out.len HN.out hj]; omega)
      injection hv with hv1 hv2 hv3
      subst hv1
      clear hv2 hv3
      obtain ⟨B, r, s, B', r', s', c0, c1', c2, c3, c4, c5, hf, hpv⟩ := HI.out.row.elem (HI.out.len HN.out hj) (at_mid hx)
      have HX := Lib.hid hx; have HPV := Lib.hid hpv; have HLP := Lib.hid (HA.out p (List.mem_of_getElem? hx)); have HGG := Lib.hid hgg
      have hNs : ∀ b, N b → b < wr.heap.size := fun b h => Nat.lt_trans (HNN.out b h) HI.out.bq.lt
      have HVP := Lib.hid (hpv.mono hNs : PG wr (· < wr.heap.size) B r s B' r' s' p).pv
      have HVX := Lib.hid (HI.out.pg.mono hNs : PG wr (· < wr.heap.size) D m k D' m' k' x).pv
      have hbq := HI.out.bq
      have HC : Hid (∀ W, Below wr.heap.size wr W → W.cell? ⟨g, i * 6, none⟩ = some (.int .i64 p.k) ∧ W.cell? ⟨g, i * 6 + 1, none⟩ = some (strV p.nm) ∧ W.cell? ⟨g, i * 6 + 2, none⟩ = some (strV p.to) ∧ W.cell? ⟨g, i * 6 + 3, none⟩ = some (.int .i64 p.h.pos) ∧ W.cell? ⟨g, i * 6 + 4, none⟩ = some (.slice B r s) ∧ W.cell? ⟨g, i * 6 + 5, none⟩ = some (.slice B' r' s') ∧ W.cell? ⟨gq, 0, none⟩ = some (.int .i64 x.k) ∧ W.cell? ⟨gq, 1, none⟩ = some (strV x.nm) ∧ W.cell? ⟨gq, 2, none⟩ = some (strV x.to) ∧ W.cell? ⟨gq, 3, none⟩ = some (.int .i64 x.h.pos) ∧ W.cell? ⟨gq, 4, none⟩ = some (.slice D m k) ∧ W.cell? ⟨gq, 5, none⟩ = some (.slice D' m' k')) := Lib.hid (fun W hb => by
        have z := hbq.below hb hbq.lt
        exact ⟨cell_b hb c0 hg2, cell_b hb c1' hg2, cell_b hb c2 hg2, cell_b hb c3 hg2, cell_b hb c4 hg2, cell_b hb c5 hg2, z.cell 0 rfl, z.cell 1 rfl, z.cell 2 rfl, z.cell 3 rfl, z.cell 4 rfl, z.cell 5 rfl⟩)
      have HG2 := Lib.hid hg2
      clear hx hpv hgg hbq c0 c1' c2 c3 c4 c5 hf hNs
      cases ho : passP p x with
      | none =>
        have HOO := Lib.hid ho
        have H1 : Hid (∀ W, Below wr.heap.size wr W → Calls Try.prog 89 #[prV p.k p.nm p.to p.h.pos B r s B' r' s', prV x.k x.nm x.to x.h.pos D m k D' m' k'] W (fun e u => e = .returned (.tuple #[.agg #[.int .i64 0, strV [], strV [], .int .i64 0, .slice none 0 0, .slice none 0 0], .agg #[.int .i64 0, strV [], strV [], .int .i64 0, .slice none 0 0, .slice none 0 0], .bool false]) ∧ Below W.heap.size W u)) := Lib.hid (fun W h =>
          (refPassE B r s B' r' s' D m k D' m' k' p x W (lt_len HPV.out HLP.out) (lt_len HI.out.pg HI.out.lt) (HVP.out.mv h) (HVX.out.mv h)).mono fun e u h => ⟨h.2.1 HOO.out, h.2.2⟩)
        clear ho
        go_upto_region 5 with fail
        have hss : ∀ W, Below wr.heap.size wr W → Below wr.heap.size wr W ∧ W.cell? ⟨g, i * 6, none⟩ = some (.int .i64 p.k) ∧ W.cell? ⟨g, i * 6 + 1, none⟩ = some (strV p.nm) ∧ W.cell? ⟨g, i * 6 + 2, none⟩ = some (strV p.to) ∧ W.cell? ⟨g, i * 6 + 3, none⟩ = some (.int .i64 p.h.pos) ∧ W.cell? ⟨g, i * 6 + 4, none⟩ = some (.slice B r s) ∧ W.cell? ⟨g, i * 6 + 5, none⟩ = some (.slice B' r' s') ∧ W.cell? ⟨gq, 0, none⟩ = some (.int .i64 x.k) ∧ W.cell? ⟨gq, 1, none⟩ = some (strV x.nm) ∧ W.cell? ⟨gq, 2, none⟩ = some (strV x.to) ∧ W.cell? ⟨gq, 3, none⟩ = some (.int .i64 x.h.pos) ∧ W.cell? ⟨gq, 4, none⟩ = some (.slice D m k) ∧ W.cell? ⟨gq, 5, none⟩ = some (.slice D' m' k') := fun W hb => ⟨hb, HC.out W hb⟩
        have HSS := Lib.hid hss
        have HKD := Lib.hid (hss wr.drew (Cut2.belD0 wr))
        have HKA : Hid (∀ W o, (Below wr.heap.size wr W ∧ W.cell? ⟨g, i * 6, none⟩ = some (.int .i64 p.k) ∧ W.cell? ⟨g, i * 6 + 1, none⟩ = some (strV p.nm) ∧ W.cell? ⟨g, i * 6 + 2, none⟩ = some (strV p.to) ∧ W.cell? ⟨g, i * 6 + 3, none⟩ = some (.int .i64 p.h.pos) ∧ W.cell? ⟨g, i * 6 + 4, none⟩ = some (.slice B r s) ∧ W.cell? ⟨g, i * 6 + 5, none⟩ = some (.slice B' r' s') ∧ W.cell? ⟨gq, 0, none⟩ = some (.int .i64 x.k) ∧ W.cell? ⟨gq, 1, none⟩ = some (strV x.nm) ∧ W.cell? ⟨gq, 2, none⟩ = some (strV x.to) ∧ W.cell? ⟨gq, 3, none⟩ = some (.int .i64 x.h.pos) ∧ W.cell? ⟨gq, 4, none⟩ = some (.slice D m k) ∧ W.cell? ⟨gq, 5, none⟩ = some (.slice D' m' k')) → Below wr.heap.size wr (W.alloc o) ∧ (W.alloc o).cell? ⟨g, i * 6, none⟩ = some (.int .i64 p.k) ∧ (W.alloc o).cell? ⟨g, i * 6 + 1, none⟩ = some (strV p.nm) ∧ (W.alloc o).cell? ⟨g, i * 6 + 2, none⟩ = some (strV p.to) ∧ (W.alloc o).cell? ⟨g, i * 6 + 3, none⟩ = some (.int .i64 p.h.pos) ∧ (W.alloc o).cell? ⟨g, i * 6 + 4, none⟩ = some (.slice B r s) ∧ (W.alloc o).cell? ⟨g, i * 6 + 5, none⟩ = some (.slice B' r' s') ∧ (W.alloc o).cell? ⟨gq, 0, none⟩ = some (.int .i64 x.k) ∧ (W.alloc o).cell? ⟨gq, 1, none⟩ = some (strV x.nm) ∧ (W.alloc o).cell? ⟨gq, 2, none⟩ = some (strV x.to) ∧ (W.alloc o).cell? ⟨gq, 3, none⟩ = some (.int .i64 x.h.pos) ∧ (W.alloc o).cell? ⟨gq, 4, none⟩ = some (.slice D m k) ∧ (W.alloc o).cell? ⟨gq, 5, none⟩ = some (.slice D' m' k')) := Lib.hid (fun W o h => hss _ (h.1.alloc h.1.size o))
        have HKS : Hid (∀ W T v0 v1 v2 v3 v4 v5, (Below wr.heap.size wr W ∧ W.cell? ⟨g, i * 6, none⟩ = some (.int .i64 p.k) ∧ W.cell? ⟨g, i * 6 + 1, none⟩ = some (strV p.nm) ∧ W.cell? ⟨g, i * 6 + 2, none⟩ = some (strV p.to) ∧ W.cell? ⟨g, i * 6 + 3, none⟩ = some (.int .i64 p.h.pos) ∧ W.cell? ⟨g, i * 6 + 4, none⟩ = some (.slice B r s) ∧ W.cell? ⟨g, i * 6 + 5, none⟩ = some (.slice B' r' s') ∧ W.cell? ⟨gq, 0, none⟩ = some (.int .i64 x.k) ∧ W.cell? ⟨gq, 1, none⟩ = some (strV x.nm) ∧ W.cell? ⟨gq, 2, none⟩ = some (strV x.to) ∧ W.cell? ⟨gq, 3, none⟩ = some (.int .i64 x.h.pos) ∧ W.cell? ⟨gq, 4, none⟩ = some (.slice D m k) ∧ W.cell? ⟨gq, 5, none⟩ = some (.slice D' m' k')) → wr.heap.size ≤ T → Below wr.heap.size wr ((((((W.setCell ⟨T, 0, none⟩ v0).setCell ⟨T, 1, none⟩ v1).setCell ⟨T, 2, none⟩ v2).setCell ⟨T, 3, none⟩ v3).setCell ⟨T, 4, none⟩ v4).setCell ⟨T, 5, none⟩ v5) ∧ ((((((W.setCell ⟨T, 0, none⟩ v0).setCell ⟨T, 1, none⟩ v1).setCell ⟨T, 2, none⟩ v2).setCell ⟨T, 3, none⟩ v3).setCell ⟨T, 4, none⟩ v4).setCell ⟨T, 5, none⟩ v5).cell? ⟨g, i * 6, none⟩ = some (.int .i64 p.k) ∧ ((((((W.setCell ⟨T, 0, none⟩ v0).setCell ⟨T, 1, none⟩ v1).setCell ⟨T, 2, none⟩ v2).setCell ⟨T, 3, none⟩ v3).setCell ⟨T, 4, none⟩ v4).setCell ⟨T, 5, none⟩ v5).cell? ⟨g, i * 6 + 1, none⟩ = some (strV p.nm) ∧ ((((((W.setCell ⟨T, 0, none⟩ v0).setCell ⟨T, 1, none⟩ v1).setCell ⟨T, 2, none⟩ v2).setCell ⟨T, 3, none⟩ v3).setCell ⟨T, 4, none⟩ v4).setCell ⟨T, 5, none⟩ v5).cell? ⟨g, i * 6 + 2, none⟩ = some (strV p.to) ∧ ((((((W.setCell ⟨T, 0, none⟩ v0).setCell ⟨T, 1, none⟩ v1).setCell ⟨T, 2, none⟩ v2).setCell ⟨T, 3, none⟩ v3).setCell ⟨T, 4, none⟩ v4).setCell ⟨T, 5, none⟩ v5).cell? ⟨g, i * 6 + 3, none⟩ = some (.int .i64 p.h.pos) ∧ ((((((W.setCell ⟨T, 0, none⟩ v0).setCell ⟨T, 1, none⟩ v1).setCell ⟨T, 2, none⟩ v2).setCell ⟨T, 3, none⟩ v3).setCell ⟨T, 4, none⟩ v4).setCell ⟨T, 5, none⟩ v5).cell? ⟨g, i * 6 + 4, none⟩ = some (.slice B r s) ∧ ((((((W.setCell ⟨T, 0, none⟩ v0).setCell ⟨T, 1, none⟩ v1).setCell ⟨T, 2, none⟩ v2).setCell ⟨T, 3, none⟩ v3).setCell ⟨T, 4, none⟩ v4).setCell ⟨T, 5, none⟩ v5).cell? ⟨g, i * 6 + 5, none⟩ = some (.slice B' r' s') ∧ ((((((W.setCell ⟨T, 0, none⟩ v0).setCell ⟨T, 1, none⟩ v1).setCell ⟨T, 2, none⟩ v2).setCell ⟨T, 3, none⟩ v3).setCell ⟨T, 4, none⟩ v4).setCell ⟨T, 5, none⟩ v5).cell? ⟨gq, 0, none⟩ = some (.int .i64 x.k) ∧ ((((((W.setCell ⟨T, 0, none⟩ v0).setCell ⟨T, 1, none⟩ v1).setCell ⟨T, 2, none⟩ v2).setCell ⟨T, 3, none⟩ v3).setCell ⟨T, 4, none⟩ v4).setCell ⟨T, 5, none⟩ v5).cell? ⟨gq, 1, none⟩ = some (strV x.nm) ∧ ((((((W.setCell ⟨T, 0, none⟩ v0).setCell ⟨T, 1, none⟩ v1).setCell ⟨T, 2, none⟩ v2).setCell ⟨T, 3, none⟩ v3).setCell ⟨T, 4, none⟩ v4).setCell ⟨T, 5, none⟩ v5).cell? ⟨gq, 2, none⟩ = some (strV x.to) ∧ ((((((W.setCell ⟨T, 0, none⟩ v0).setCell ⟨T, 1, none⟩ v1).setCell ⟨T, 2, none⟩ v2).setCell ⟨T, 3, none⟩ v3).setCell ⟨T, 4, none⟩ v4).setCell ⟨T, 5, none⟩ v5).cell? ⟨gq, 3, none⟩ = some (.int .i64 x.h.pos) ∧ ((((((W.setCell ⟨T, 0, none⟩ v0).setCell ⟨T, 1, none⟩ v1).setCell ⟨T, 2, none⟩ v2).setCell ⟨T, 3, none⟩ v3).setCell ⟨T, 4, none⟩ v4).setCell ⟨T, 5, none⟩ v5).cell? ⟨gq, 4, none⟩ = some (.slice D m k) ∧ ((((((W.setCell ⟨T, 0, none⟩ v0).setCell ⟨T, 1, none⟩ v1).setCell ⟨T, 2, none⟩ v2).setCell ⟨T, 3, none⟩ v3).setCell ⟨T, 4, none⟩ v4).setCell ⟨T, 5, none⟩ v5).cell? ⟨gq, 5, none⟩ = some (.slice D' m' k')) := Lib.hid (fun W T v0 v1 v2 v3 v4 v5 h hT => hss _ (Cut2.bel_set6 h.1 hT v0 v1 v2 v3 v4 v5))
        clear hss
        go_cut [9, 10, 11, 39, 40] from 17 (fun s9 s10 s11 s39 s40 wx => ∃ (T U : Nat), s9 = .pointer (some ⟨T, 0, none⟩) ∧ s10 = .pointer (some ⟨U, 0, none⟩) ∧ s11 = .bool false ∧ Cut2.Lay wr wx T U #[.int .i64 0, .string ⟨#[]⟩, .string ⟨#[]⟩, .int .i64 0, .slice none 0 0, .slice none 0 0] #[.int .i64 0, .string ⟨#[]⟩, .string ⟨#[]⟩, .int .i64 0, .slice none 0 0, .slice none 0 0] ∧ s39 = undef ∧ s40 = undef)
        case first =>
          obtain ⟨_, y0, y1, y2, y3, y4, y5, x0, x1, x2, x3, x4, x5⟩ := HSS.out wr (Below.refl _ _)
          go_region_held3 (fun W => Below wr.heap.size wr W ∧ W.cell? ⟨g, i * 6, none⟩ = some (.int .i64 p.k) ∧ W.cell? ⟨g, i * 6 + 1, none⟩ = some (strV p.nm) ∧ W.cell? ⟨g, i * 6 + 2, none⟩ = some (strV p.to) ∧ W.cell? ⟨g, i * 6 + 3, none⟩ = some (.int .i64 p.h.pos) ∧ W.cell? ⟨g, i * 6 + 4, none⟩ = some (.slice B r s) ∧ W.cell? ⟨g, i * 6 + 5, none⟩ = some (.slice B' r' s') ∧ W.cell? ⟨gq, 0, none⟩ = some (.int .i64 x.k) ∧ W.cell? ⟨gq, 1, none⟩ = some (strV x.nm) ∧ W.cell? ⟨gq, 2, none⟩ = some (strV x.to) ∧ W.cell? ⟨gq, 3, none⟩ = some (.int .i64 x.h.pos) ∧ W.cell? ⟨gq, 4, none⟩ = some (.slice D m k) ∧ W.cell? ⟨gq, 5, none⟩ = some (.slice D' m' k'))
            (first
              | (with_reducible exact HKD.out)
              | (with_reducible exact HSS.out _ (Cut2.belD1 wr _))
              | (with_reducible exact HSS.out _ (Cut2.belD2 wr _ _))
              | (with_reducible exact hS1)
              | (with_reducible exact HKA.out _ _ hS1)
              | (with_reducible exact HKA.out _ _ (HKA.out _ _ hS1))
              | (with_reducible exact HKS.out _ _ _ _ _ _ _ _ hS1 tlp)
              | (with_reducible exact HKS.out _ _ _ _ _ _ _ _ hS1 tlq)
              | (with_reducible exact HKA.out _ _ (HKS.out _ _ _ _ _ _ _ _ hS1 tlp))
              | (with_reducible exact HKS.out _ _ _ _ _ _ _ _ (HKS.out _ _ _ _ _ _ _ _ hS1 tlp) tlq)
              | (with_reducible exact HKS.out _ _ _ _ _ _ _ _ (HKS.out _ _ _ _ _ _ _ _ hS1 tlq) tlp))
            (first
              | (go_at_call 89; (with_reducible refine (H1.out (wr.drew) (Cut2.belD0 wr )).mono ?_); rintro e u1 ⟨rfl, hb⟩; have hbc := Cut2.thrD0 hb; have hS1 := HSS.out u1 hbc; have HU1 := Lib.hid hbc; have tl1 := HU1.out.size; clear hb hbc)
              | (go_at_call 89; (with_reducible refine (H1.out ((wr.alloc (.cells #[.int .i64 0, strV [], strV [], .int .i64 0, .slice none 0 0, .slice none 0 0] 54)).drew) (Cut2.belD1 wr (.cells #[.int .i64 0, strV [], strV [], .int .i64 0, .slice none 0 0, .slice none 0 0] 54))).mono ?_); rintro e u1 ⟨rfl, hb⟩; have hbc := Cut2.thrD1 hb; have zp := Cut2.newD1 hb; have tlp := Nat.le_refl wr.heap.size; have hS1 := HSS.out u1 hbc; have HU1 := Lib.hid hbc; have tl1 := HU1.out.size; have pp0 := zp.cell 0 (u := .int .i64 0) rfl; have ppf0 := zp.frozen 0; have pp1 := zp.cell 1 (u := strV []) rfl; have ppf1 := zp.frozen 1; have pp2 := zp.cell 2 (u := strV []) rfl; have ppf2 := zp.frozen 2; have pp3 := zp.cell 3 (u := .int .i64 0) rfl; have ppf3 := zp.frozen 3; have pp4 := zp.cell 4 (u := .slice none 0 0) rfl; have ppf4 := zp.frozen 4; have pp5 := zp.cell 5 (u := .slice none 0 0) rfl; have ppf5 := zp.frozen 5; have ppl := zp.lt; clear hb hbc)
              | (go_at_call 89; (with_reducible refine (H1.out (((wr.alloc (.cells #[.int .i64 0, strV [], strV [], .int .i64 0, .slice none 0 0, .slice none 0 0] 54)).alloc (.cells #[.int .i64 0, strV [], strV [], .int .i64 0, .slice none 0 0, .slice none 0 0] 54)).drew) (Cut2.belD2 wr (.cells #[.int .i64 0, strV [], strV [], .int .i64 0, .slice none 0 0, .slice none 0 0] 54) (.cells #[.int .i64 0, strV [], strV [], .int .i64 0, .slice none 0 0, .slice none 0 0] 54))).mono ?_); rintro e u1 ⟨rfl, hb⟩; have hbc := Cut2.thrD2 hb; obtain ⟨zp, zq⟩ := Cut2.newD2 hb; have tlp := Nat.le_refl wr.heap.size; have zpq := Nat.lt_succ_self wr.heap.size; have tlq := Nat.le_succ wr.heap.size; have hS1 := HSS.out u1 hbc; have HU1 := Lib.hid hbc; have tl1 := HU1.out.size; have pp0 := zp.cell 0 (u := .int .i64 0) rfl; have ppf0 := zp.frozen 0; have pp1 := zp.cell 1 (u := strV []) rfl; have ppf1 := zp.frozen 1; have pp2 := zp.cell 2 (u := strV []) rfl; have ppf2 := zp.frozen 2; have pp3 := zp.cell 3 (u := .int .i64 0) rfl; have ppf3 := zp.frozen 3; have pp4 := zp.cell 4 (u := .slice none 0 0) rfl; have ppf4 := zp.frozen 4; have pp5 := zp.cell 5 (u := .slice none 0 0) rfl; have ppf5 := zp.frozen 5; have ppl := zp.lt; have rr0 := zq.cell 0 (u := .int .i64 0) rfl; have rrf0 := zq.frozen 0; have rr1 := zq.cell 1 (u := strV []) rfl; have rrf1 := zq.frozen 1; have rr2 := zq.cell 2 (u := strV []) rfl; have rrf2 := zq.frozen 2; have rr3 := zq.cell 3 (u := .int .i64 0) rfl; have rrf3 := zq.frozen 3; have rr4 := zq.cell 4 (u := .slice none 0 0) rfl; have rrf4 := zq.frozen 4; have rr5 := zq.cell 5 (u := .slice none 0 0) rfl; have rrf5 := zq.frozen 5; have rrl := zq.lt; clear hb hbc))
          all_goals (try go_wp2_with fail)
          all_goals go_meet
          (with_reducible exact ⟨_, _, rfl, rfl, rfl, Cut2.lay_aa HU1.out, rfl, rfl⟩)
          (with_reducible exact ⟨_, _, rfl, rfl, rfl, (Cut2.lay_aa HU1.out).swap, rfl, rfl⟩)
          (with_reducible exact ⟨_, _, rfl, rfl, rfl, Cut2.lay_sa HU1.out zp tlp, rfl, rfl⟩)
          (with_reducible exact ⟨_, _, rfl, rfl, rfl, Cut2.lay_ss HU1.out zp zq (Nat.ne_of_lt zpq) tlp tlq, rfl, rfl⟩)
          (with_reducible exact ⟨_, _, rfl, rfl, rfl, (Cut2.lay_sa HU1.out zp tlp).swap, rfl, rfl⟩)
          (with_reducible exact ⟨_, _, rfl, rfl, rfl, Cut2.lay_ss HU1.out zq zp (Nat.ne_of_gt zpq) tlq tlp, rfl, rfl⟩)
        case rest =>
          obtain ⟨T, U, rfl, rfl, rfl, ⟨b_x, b_y, hlT, hlU, hb⟩, rfl, rfl⟩ := hcut
          clear HSS HKD HKA HKS H1
          have hB2 := HI.out.br.below hb HI.out.br.lt
          have hlt := hB2.lt
          have z0 := hB2.cell 0 rfl; have z1 := hB2.cell 1 rfl; have z2 := hB2.cell 2 rfl; have z3 := hB2.cell 3 rfl; have z4 := hB2.cell 4 rfl; have z5 := hB2.cell 5 rfl
          have f0 := hB2.frozen 0; have f1 := hB2.frozen 1; have f2 := hB2.frozen 2; have f3 := hB2.frozen 3; have f4 := hB2.frozen 4; have f5 := hB2.frozen 5
          have b6 := blk6 hB2 (.int .i64 0) (strV []) (strV []) (.int .i64 0) (.slice none 0 0) (.slice none 0 0)
          have hw9 := below_set6 (HBW.out.trans (hb.mono (Nat.le_of_lt HI.out.bq.lt))) (Nat.le_succ gq) (.int .i64 0) (strV []) (strV []) (.int .i64 0) (.slice none 0 0) (.slice none 0 0)
          clear hB2 b_x b_y hlT hlU HC HVP HVX HPV
          go_wp2_with fail
          generalize (World.setCell (World.setCell (World.setCell (World.setCell (World.setCell (World.setCell wc ⟨gq + 1, 0, none⟩ (.int .i64 0)) ⟨gq + 1, 1, none⟩ (strV [])) ⟨gq + 1, 2, none⟩ (strV [])) ⟨gq + 1, 3, none⟩ (.int .i64 0)) ⟨gq + 1, 4, none⟩ (.slice none 0 0)) ⟨gq + 1, 5, none⟩ (.slice none 0 0)) = W9 at *
          clear z0 z1 z2 z3 z4 z5 f0 f1 f2 f3 f4 f5 hlt
          have u0 := b6.cell 0 rfl; have u1 := b6.cell 1 rfl; have u2 := b6.cell 2 rfl; have u3 := b6.cell 3 rfl; have u4 := b6.cell 4 rfl; have u5 := b6.cell 5 rfl
          refine bodyPost_ret (v := .tuple #[.agg #[.int .i64 0, strV [], strV [], .int .i64 0, .slice none 0 0, .slice none 0 0], .slice none 0 0, .bool false]) (by simp [results, Try.results76, go_sem, u0, u1, u2, u3, u4, u5]) rfl ?_
          exact oneEnd_none (one_step_none passP HX.out HI.out.on HOO.out) (by rw [← HE.out]; exact hw9)
      | some z =>
        obtain ⟨x', y'⟩ := z
        have HOO := Lib.hid ho
        have H1 : Hid (∀ W, Below wr.heap.size wr W → Calls Try.prog 89 #[prV p.k p.nm p.to p.h.pos B r s B' r' s', prV x.k x.nm x.to x.h.pos D m k D' m' k'] W (fun e u => e = .returned (.tuple #[prV x'.k x'.nm x'.to x'.h.pos D m k D' m' k', prV y'.k y'.nm y'.to y'.h.pos B r s B' r' s', .bool true]) ∧ Below W.heap.size W u)) := Lib.hid (fun W h =>
          (refPassE B r s B' r' s' D m k D' m' k' p x W (lt_len HPV.out HLP.out) (lt_len HI.out.pg HI.out.lt) (HVP.out.mv h) (HVX.out.mv h)).mono fun e u h => ⟨h.1 (x', y') HOO.out, h.2.2⟩)
        clear ho
        go_upto_region 5 with fail
        have hss : ∀ W, Below wr.heap.size wr W → Below wr.heap.size wr W ∧ W.cell? ⟨g, i * 6, none⟩ = some (.int .i64 p.k) ∧ W.cell? ⟨g, i * 6 + 1, none⟩ = some (strV p.nm) ∧ W.cell? ⟨g, i * 6 + 2, none⟩ = some (strV p.to) ∧ W.cell? ⟨g, i * 6 + 3, none⟩ = some (.int .i64 p.h.pos) ∧ W.cell? ⟨g, i * 6 + 4, none⟩ = some (.slice B r s) ∧ W.cell? ⟨g, i * 6 + 5, none⟩ = some (.slice B' r' s') ∧ W.cell? ⟨gq, 0, none⟩ = some (.int .i64 x.k) ∧ W.cell? ⟨gq, 1, none⟩ = some (strV x.nm) ∧ W.cell? ⟨gq, 2, none⟩ = some (strV x.to) ∧ W.cell? ⟨gq, 3, none⟩ = some (.int .i64 x.h.pos) ∧ W.cell? ⟨gq, 4, none⟩ = some (.slice D m k) ∧ W.cell? ⟨gq, 5, none⟩ = some (.slice D' m' k') := fun W hb => ⟨hb, HC.out W hb⟩
        have HSS := Lib.hid hss
        have HKD := Lib.hid (hss wr.drew (Cut2.belD0 wr))
        have HKA : Hid (∀ W o, (Below wr.heap.size wr W ∧ W.cell? ⟨g, i * 6, none⟩ = some (.int .i64 p.k) ∧ W.cell? ⟨g, i * 6 + 1, none⟩ = some (strV p.nm) ∧ W.cell? ⟨g, i * 6 + 2, none⟩ = some (strV p.to) ∧ W.cell? ⟨g, i * 6 + 3, none⟩ = some (.int .i64 p.h.pos) ∧ W.cell? ⟨g, i * 6 + 4, none⟩ = some (.slice B r s) ∧ W.cell? ⟨g, i * 6 + 5, none⟩ = some (.slice B' r' s') ∧ W.cell? ⟨gq, 0, none⟩ = some (.int .i64 x.k) ∧ W.cell? ⟨gq, 1, none⟩ = some (strV x.nm) ∧ W.cell? ⟨gq, 2, none⟩ = some (strV x.to) ∧ W.cell? ⟨gq, 3, none⟩ = some (.int .i64 x.h.pos) ∧ W.cell? ⟨gq, 4, none⟩ = some (.slice D m k) ∧ W.cell? ⟨gq, 5, none⟩ = some (.slice D' m' k')) → Below wr.heap.size wr (W.alloc o) ∧ (W.alloc o).cell? ⟨g, i * 6, none⟩ = some (.int .i64 p.k) ∧ (W.alloc o).cell? ⟨g, i * 6 + 1, none⟩ = some (strV p.nm) ∧ (W.alloc o).cell? ⟨g, i * 6 + 2, none⟩ = some (strV p.to) ∧ (W.alloc o).cell? ⟨g, i * 6 + 3, none⟩ = some (.int .i64 p.h.pos) ∧ (W.alloc o).cell? ⟨g, i * 6 + 4, none⟩ = some (.slice B r s) ∧ (W.alloc o).cell? ⟨g, i * 6 + 5, none⟩ = some (.slice B' r' s') ∧ (W.alloc o).cell? ⟨gq, 0, none⟩ = some (.int .i64 x.k) ∧ (W.alloc o).cell? ⟨gq, 1, none⟩ = some (strV x.nm) ∧ (W.alloc o).cell? ⟨gq, 2, none⟩ = some (strV x.to) ∧ (W.alloc o).cell? ⟨gq, 3, none⟩ = some (.int .i64 x.h.pos) ∧ (W.alloc o).cell? ⟨gq, 4, none⟩ = some (.slice D m k) ∧ (W.alloc o).cell? ⟨gq, 5, none⟩ = some (.slice D' m' k')) := Lib.hid (fun W o h => hss _ (h.1.alloc h.1.size o))
        have HKS : Hid (∀ W T v0 v1 v2 v3 v4 v5, (Below wr.heap.size wr W ∧ W.cell? ⟨g, i * 6, none⟩ = some (.int .i64 p.k) ∧ W.cell? ⟨g, i * 6 + 1, none⟩ = some (strV p.nm) ∧ W.cell? ⟨g, i * 6 + 2, none⟩ = some (strV p.to) ∧ W.cell? ⟨g, i * 6 + 3, none⟩ = some (.int .i64 p.h.pos) ∧ W.cell? ⟨g, i * 6 + 4, none⟩ = some (.slice B r s) ∧ W.cell? ⟨g, i * 6 + 5, none⟩ = some (.slice B' r' s') ∧ W.cell? ⟨gq, 0, none⟩ = some (.int .i64 x.k) ∧ W.cell? ⟨gq, 1, none⟩ = some (strV x.nm) ∧ W.cell? ⟨gq, 2, none⟩ = some (strV x.to) ∧ W.cell? ⟨gq, 3, none⟩ = some (.int .i64 x.h.pos) ∧ W.cell? ⟨gq, 4, none⟩ = some (.slice D m k) ∧ W.cell? ⟨gq, 5, none⟩ = some (.slice D' m' k')) → wr.heap.size ≤ T → Below wr.heap.size wr ((((((W.setCell ⟨T, 0, none⟩ v0).setCell ⟨T, 1, none⟩ v1).setCell ⟨T, 2, none⟩ v2).setCell ⟨T, 3, none⟩ v3).setCell ⟨T, 4, none⟩ v4).setCell ⟨T, 5, none⟩ v5) ∧ ((((((W.setCell ⟨T, 0, none⟩ v0).setCell ⟨T, 1, none⟩ v1).setCell ⟨T, 2, none⟩ v2).setCell ⟨T, 3, none⟩ v3).setCell ⟨T, 4, none⟩ v4).setCell ⟨T, 5, none⟩ v5).cell? ⟨g, i * 6, none⟩ = some (.int .i64 p.k) ∧ ((((((W.setCell ⟨T, 0, none⟩ v0).setCell ⟨T, 1, none⟩ v1).setCell ⟨T, 2, none⟩ v2).setCell ⟨T, 3, none⟩ v3).setCell ⟨T, 4, none⟩ v4).setCell ⟨T, 5, none⟩ v5).cell? ⟨g, i * 6 + 1, none⟩ = some (strV p.nm) ∧ ((((((W.setCell ⟨T, 0, none⟩ v0).setCell ⟨T, 1, none⟩ v1).setCell ⟨T, 2, none⟩ v2).setCell ⟨T, 3, none⟩ v3).setCell ⟨T, 4, none⟩ v4).setCell ⟨T, 5, none⟩ v5).cell? ⟨g, i * 6 + 2, none⟩ = some (strV p.to) ∧ ((((((W.setCell ⟨T, 0, none⟩ v0).setCell ⟨T, 1, none⟩ v1).setCell ⟨T, 2, none⟩ v2).setCell ⟨T, 3, none⟩ v3).setCell ⟨T, 4, none⟩ v4).setCell ⟨T, 5, none⟩ v5).cell? ⟨g, i * 6 + 3, none⟩ = some (.int .i64 p.h.pos) ∧ ((((((W.setCell ⟨T, 0, none⟩ v0).setCell ⟨T, 1, none⟩ v1).setCell ⟨T, 2, none⟩ v2).setCell ⟨T, 3, none⟩ v3).setCell ⟨T, 4, none⟩ v4).setCell ⟨T, 5, none⟩ v5).cell? ⟨g, i * 6 + 4, none⟩ = some (.slice B r s) ∧ ((((((W.setCell ⟨T, 0, none⟩ v0).setCell ⟨T, 1, none⟩ v1).setCell ⟨T, 2, none⟩ v2).setCell ⟨T, 3, none⟩ v3).setCell ⟨T, 4, none⟩ v4).setCell ⟨T, 5, none⟩ v5).cell? ⟨g, i * 6 + 5, none⟩ = some (.slice B' r' s') ∧ ((((((W.setCell ⟨T, 0, none⟩ v0).setCell ⟨T, 1, none⟩ v1).setCell ⟨T, 2, none⟩ v2).setCell ⟨T, 3, none⟩ v3).setCell ⟨T, 4, none⟩ v4).setCell ⟨T, 5, none⟩ v5).cell? ⟨gq, 0, none⟩ = some (.int .i64 x.k) ∧ ((((((W.setCell ⟨T, 0, none⟩ v0).setCell ⟨T, 1, none⟩ v1).setCell ⟨T, 2, none⟩ v2).setCell ⟨T, 3, none⟩ v3).setCell ⟨T, 4, none⟩ v4).setCell ⟨T, 5, none⟩ v5).cell? ⟨gq, 1, none⟩ = some (strV x.nm) ∧ ((((((W.setCell ⟨T, 0, none⟩ v0).setCell ⟨T, 1, none⟩ v1).setCell ⟨T, 2, none⟩ v2).setCell ⟨T, 3, none⟩ v3).setCell ⟨T, 4, none⟩ v4).setCell ⟨T, 5, none⟩ v5).cell? ⟨gq, 2, none⟩ = some (strV x.to) ∧ ((((((W.setCell ⟨T, 0, none⟩ v0).setCell ⟨T, 1, none⟩ v1).setCell ⟨T, 2, none⟩ v2).setCell ⟨T, 3, none⟩ v3).setCell ⟨T, 4, none⟩ v4).setCell ⟨T, 5, none⟩ v5).cell? ⟨gq, 3, none⟩ = some (.int .i64 x.h.pos) ∧ ((((((W.setCell ⟨T, 0, none⟩ v0).setCell ⟨T, 1, none⟩ v1).setCell ⟨T, 2, none⟩ v2).setCell ⟨T, 3, none⟩ v3).setCell ⟨T, 4, none⟩ v4).setCell ⟨T, 5, none⟩ v5).cell? ⟨gq, 4, none⟩ = some (.slice D m k) ∧ ((((((W.setCell ⟨T, 0, none⟩ v0).setCell ⟨T, 1, none⟩ v1).setCell ⟨T, 2, none⟩ v2).setCell ⟨T, 3, none⟩ v3).setCell ⟨T, 4, none⟩ v4).setCell ⟨T, 5, none⟩ v5).cell? ⟨gq, 5, none⟩ = some (.slice D' m' k')) := Lib.hid (fun W T v0 v1 v2 v3 v4 v5 h hT => hss _ (Cut2.bel_set6 h.1 hT v0 v1 v2 v3 v4 v5))
        clear hss
        go_cut [9, 10, 11, 39, 40] from 17 (fun s9 s10 s11 s39 s40 wx => ∃ (T U : Nat), s9 = .pointer (some ⟨T, 0, none⟩) ∧ s10 = .pointer (some ⟨U, 0, none⟩) ∧ s11 = .bool true ∧ Cut2.Lay wr wx T U #[.int .i64 x'.k, strV x'.nm, strV x'.to, .int .i64 x'.h.pos, .slice D m k, .slice D' m' k'] #[.int .i64 y'.k, strV y'.nm, strV y'.to, .int .i64 y'.h.pos, .slice B r s, .slice B' r' s'] ∧ s39 = undef ∧ s40 = undef)
        case first =>
          obtain ⟨_, y0, y1, y2, y3, y4, y5, x0, x1, x2, x3, x4, x5⟩ := HSS.out wr (Below.refl _ _)
          go_region_held3 (fun W => Below wr.heap.size wr W ∧ W.cell? ⟨g, i * 6, none⟩ = some (.int .i64 p.k) ∧ W.cell? ⟨g, i * 6 + 1, none⟩ = some (strV p.nm) ∧ W.cell? ⟨g, i * 6 + 2, none⟩ = some (strV p.to) ∧ W.cell? ⟨g, i * 6 + 3, none⟩ = some (.int .i64 p.h.pos) ∧ W.cell? ⟨g, i * 6 + 4, none⟩ = some (.slice B r s) ∧ W.cell? ⟨g, i * 6 + 5, none⟩ = some (.slice B' r' s') ∧ W.cell? ⟨gq, 0, none⟩ = some (.int .i64 x.k) ∧ W.cell? ⟨gq, 1, none⟩ = some (strV x.nm) ∧ W.cell? ⟨gq, 2, none⟩ = some (strV x.to) ∧ W.cell? ⟨gq, 3, none⟩ = some (.int .i64 x.h.pos) ∧ W.cell? ⟨gq, 4, none⟩ = some (.slice D m k) ∧ W.cell? ⟨gq, 5, none⟩ = some (.slice D' m' k'))
            (first
              | (with_reducible exact HKD.out)
              | (with_reducible exact HSS.out _ (Cut2.belD1 wr _))
              | (with_reducible exact HSS.out _ (Cut2.belD2 wr _ _))
              | (with_reducible exact hS1)
              | (with_reducible exact HKA.out _ _ hS1)
              | (with_reducible exact HKA.out _ _ (HKA.out _ _ hS1))
              | (with_reducible exact HKS.out _ _ _ _ _ _ _ _ hS1 tlp)
              | (with_reducible exact HKS.out _ _ _ _ _ _ _ _ hS1 tlq)
              | (with_reducible exact HKA.out _ _ (HKS.out _ _ _ _ _ _ _ _ hS1 tlp))
              | (with_reducible exact HKS.out _ _ _ _ _ _ _ _ (HKS.out _ _ _ _ _ _ _ _ hS1 tlp) tlq)
              | (with_reducible exact HKS.out _ _ _ _ _ _ _ _ (HKS.out _ _ _ _ _ _ _ _ hS1 tlq) tlp))
            (first
              | (go_at_call 89; (with_reducible refine (H1.out (wr.drew) (Cut2.belD0 wr )).mono ?_); rintro e u1 ⟨rfl, hb⟩; have hbc := Cut2.thrD0 hb; have hS1 := HSS.out u1 hbc; have HU1 := Lib.hid hbc; have tl1 := HU1.out.size; clear hb hbc)
              | (go_at_call 89; (with_reducible refine (H1.out ((wr.alloc (.cells #[.int .i64 0, strV [], strV [], .int .i64 0, .slice none 0 0, .slice none 0 0] 54)).drew) (Cut2.belD1 wr (.cells #[.int .i64 0, strV [], strV [], .int .i64 0, .slice none 0 0, .slice none 0 0] 54))).mono ?_); rintro e u1 ⟨rfl, hb⟩; have hbc := Cut2.thrD1 hb; have zp := Cut2.newD1 hb; have tlp := Nat.le_refl wr.heap.size; have hS1 := HSS.out u1 hbc; have HU1 := Lib.hid hbc; have tl1 := HU1.out.size; have pp0 := zp.cell 0 (u := .int .i64 0) rfl; have ppf0 := zp.frozen 0; have pp1 := zp.cell 1 (u := strV []) rfl; have ppf1 := zp.frozen 1; have pp2 := zp.cell 2 (u := strV []) rfl; have ppf2 := zp.frozen 2; have pp3 := zp.cell 3 (u := .int .i64 0) rfl; have ppf3 := zp.frozen 3; have pp4 := zp.cell 4 (u := .slice none 0 0) rfl; have ppf4 := zp.frozen 4; have pp5 := zp.cell 5 (u := .slice none 0 0) rfl; have ppf5 := zp.frozen 5; have ppl := zp.lt; clear hb hbc)
              | (go_at_call 89; (with_reducible refine (H1.out (((wr.alloc (.cells #[.int .i64 0, strV [], strV [], .int .i64 0, .slice none 0 0, .slice none 0 0] 54)).alloc (.cells #[.int .i64 0, strV [], strV [], .int .i64 0, .slice none 0 0, .slice none 0 0] 54)).drew) (Cut2.belD2 wr (.cells #[.int .i64 0, strV [], strV [], .int .i64 0, .slice none 0 0, .slice none 0 0] 54) (.cells #[.int .i64 0, strV [], strV [], .int .i64 0, .slice none 0 0, .slice none 0 0] 54))).mono ?_); rintro e u1 ⟨rfl, hb⟩; have hbc := Cut2.thrD2 hb; obtain ⟨zp, zq⟩ := Cut2.newD2 hb; have tlp := Nat.le_refl wr.heap.size; have zpq := Nat.lt_succ_self wr.heap.size; have tlq := Nat.le_succ wr.heap.size; have hS1 := HSS.out u1 hbc; have HU1 := Lib.hid hbc; have tl1 := HU1.out.size; have pp0 := zp.cell 0 (u := .int .i64 0) rfl; have ppf0 := zp.frozen 0; have pp1 := zp.cell 1 (u := strV []) rfl; have ppf1 := zp.frozen 1; have pp2 := zp.cell 2 (u := strV []) rfl; have ppf2 := zp.frozen 2; have pp3 := zp.cell 3 (u := .int .i64 0) rfl; have ppf3 := zp.frozen 3; have pp4 := zp.cell 4 (u := .slice none 0 0) rfl; have ppf4 := zp.frozen 4; have pp5 := zp.cell 5 (u := .slice none 0 0) rfl; have ppf5 := zp.frozen 5; have ppl := zp.lt; have rr0 := zq.cell 0 (u := .int .i64 0) rfl; have rrf0 := zq.frozen 0; have rr1 := zq.cell 1 (u := strV []) rfl; have rrf1 := zq.frozen 1; have rr2 := zq.cell 2 (u := strV []) rfl; have rrf2 := zq.frozen 2; have rr3 := zq.cell 3 (u := .int .i64 0) rfl; have rrf3 := zq.frozen 3; have rr4 := zq.cell 4 (u := .slice none 0 0) rfl; have rrf4 := zq.frozen 4; have rr5 := zq.cell 5 (u := .slice none 0 0) rfl; have rrf5 := zq.frozen 5; have rrl := zq.lt; clear hb hbc))
          all_goals (try go_wp2_with fail)
          all_goals go_meet
          (with_reducible exact ⟨_, _, rfl, rfl, rfl, Cut2.lay_aa HU1.out, rfl, rfl⟩)
          (with_reducible exact ⟨_, _, rfl, rfl, rfl, (Cut2.lay_aa HU1.out).swap, rfl, rfl⟩)
          (with_reducible exact ⟨_, _, rfl, rfl, rfl, Cut2.lay_sa HU1.out zp tlp, rfl, rfl⟩)
          (with_reducible exact ⟨_, _, rfl, rfl, rfl, Cut2.lay_ss HU1.out zp zq (Nat.ne_of_lt zpq) tlp tlq, rfl, rfl⟩)
          (with_reducible exact ⟨_, _, rfl, rfl, rfl, (Cut2.lay_sa HU1.out zp tlp).swap, rfl, rfl⟩)
          (with_reducible exact ⟨_, _, rfl, rfl, rfl, Cut2.lay_ss HU1.out zq zp (Nat.ne_of_gt zpq) tlq tlp, rfl, rfl⟩)
        case rest =>
          obtain ⟨T, U, rfl, rfl, rfl, ⟨b_x, b_y, hlT, hlU, hb⟩, rfl, rfl⟩ := hcut
          clear HSS HKD HKA HKS H1
          have hB1 := HI.out.bq.below hb HI.out.bq.lt
          have hst := oneInv_step HI.out HN.out HX.out HOO.out HLP.out HNN.out hb HPV.out
          have hbs := below_row6 (below_set6 (HBW.out.trans (hb.mono (Nat.le_of_lt HI.out.bq.lt))) (Nat.le_refl gq) (.int .i64 x'.k) (strV x'.nm) (strV x'.to) (.int .i64 x'.h.pos) (.slice D m k) (.slice D' m' k')) (Nat.le_of_succ_le (Nat.le_of_succ_le HGG.out)) i (.int .i64 y'.k) (strV y'.nm) (strV y'.to) (.int .i64 y'.h.pos) (.slice B r s) (.slice B' r' s')
          have hrow := (HI.out.row.below hb).set6 (b := gq) (fun e => by injection e with e; have e : gq = g := e; have := HGG.out; omega) (fun h => by have := HNN.out _ h; omega) (.int .i64 x'.k) (strV x'.nm) (strV x'.to) (.int .i64 x'.h.pos) (.slice D m k) (.slice D' m' k')
          have hby := blk_set6 b_y (show U ≠ gq by have := HI.out.bq.lt; omega) (.int .i64 x'.k) (strV x'.nm) (strV x'.to) (.int .i64 x'.h.pos) (.slice D m k) (.slice D' m' k')
          have HST := Lib.hid hst; have HBS := Lib.hid hbs; have HROW := Lib.hid hrow; have HBY := Lib.hid hby
          have z0 := hB1.cell 0 rfl; have z1 := hB1.cell 1 rfl; have z2 := hB1.cell 2 rfl; have z3 := hB1.cell 3 rfl; have z4 := hB1.cell 4 rfl; have z5 := hB1.cell 5 rfl
          have f0 := hB1.frozen 0; have f1 := hB1.frozen 1; have f2 := hB1.frozen 2; have f3 := hB1.frozen 3; have f4 := hB1.frozen 4; have f5 := hB1.frozen 5
          have v0 := b_x.cell 0 rfl; have v1 := b_x.cell 1 rfl; have v2 := b_x.cell 2 rfl; have v3 := b_x.cell 3 rfl; have v4 := b_x.cell 4 rfl; have v5 := b_x.cell 5 rfl
          have hlt := hB1.lt
          have hT1 := b_x.lt
          clear hst hbs hrow hby hB1 b_x b_y HC HVP HVX HPV
          go_upto_region 9 with fail
          generalize (World.setCell (World.setCell (World.setCell (World.setCell (World.setCell (World.setCell wc ⟨gq, 0, none⟩ (.int .i64 x'.k)) ⟨gq, 1, none⟩ (strV x'.nm)) ⟨gq, 2, none⟩ (strV x'.to)) ⟨gq, 3, none⟩ (.int .i64 x'.h.pos)) ⟨gq, 4, none⟩ (.slice D m k)) ⟨gq, 5, none⟩ (.slice D' m' k')) = W9 at *
          clear z0 z1 z2 z3 z4 z5 f0 f1 f2 f3 f4 f5 v0 v1 v2 v3 v4 v5 hlt hT1
          obtain ⟨B9, r9, s9, D9, m9, d9, q0, q1, q2, q3, q4, q5, hf9, _⟩ := HROW.out.elem (HI.out.len HN.out hj) (at_mid HX.out)
          have hby := HBY.out
          have v0 := hby.cell 0 rfl; have v1 := hby.cell 1 rfl; have v2 := hby.cell 2 rfl; have v3 := hby.cell 3 rfl; have v4 := hby.cell 4 rfl; have v5 := hby.cell 5 rfl
          have f0 := hf9 (i * 6); have f1 := hf9 (i * 6 + 1); have f2 := hf9 (i * 6 + 2); have f3 := hf9 (i * 6 + 3); have f4 := hf9 (i * 6 + 4); have f5 := hf9 (i * 6 + 5)
          clear hf9 hby
          go_wp2_with fail
          go_roundw
          case rel => exact ⟨i, x', y' :: post, by omega, rfl, HST.out, HBS.out⟩
          case measure => simp [intOf]

theorem rdP_srcT {W : World} {N T : Nat → Prop} {A : Option Addr} {l : List Ch} (h : SrcN W N A l) (hN : ∀ b, N b → T b) (hA : l = [] ∨ ∀ a, A = some a → T a.block) : RdP W T A l := by
  obtain ⟨ys, h1, h2, h3⟩ := h
  by_cases h0 : l = []
  · exact .inl h0
  rcases h3 with rfl | ⟨a, rfl, hc⟩
  · exact .inl (List.eq_nil_of_length_eq_zero (by simp at h1; omega))
  · have hT := hA.resolve_left h0 a rfl
    refine .inr ⟨a, rfl, hT, fun k x hx => ?_⟩
    obtain ⟨B, r, s, D, m, d, g0, g1, g2, g3, g4, g5, g6⟩ := h2 k x hx
    refine ⟨hc _ _ g0, ?_, ?_, ?_, B, r, s, D, m, d, ?_, ?_, g6.mono hN⟩
    · rw [add_off _ _ _ (by decide)]; exact hc _ _ g1
    · rw [add_off _ _ _ (by decide)]; exact hc _ _ g2
    · rw [add_off _ _ _ (by decide)]; exact hc _ _ g3
    · rw [add_off _ _ _ (by decide)]; exact hc _ _ g4
    · rw [add_off _ _ _ (by decide)]; exact hc _ _ g5

/-- What S names, and what was made behind w. -/
def Also (S : Nat → Prop) (w W : World) : Nat → Prop := fun b => S b ∨ (w.heap.size ≤ b ∧ b < W.heap.size)
/-- How a call of Pass ends that tells x, y and bo: in blocks that S names, or in memory that is new. -/
def LPassEndS (w : World) (S : Nat → Prop) (x y : List Ch) (bo : Bool) (e : Ending) (w' : World) : Prop :=
  ∃ A c B d, e = .returned (.tuple #[.slice A x.length c, .slice B y.length d, .bool bo]) ∧ x.length ≤ c ∧ y.length ≤ d ∧ RdP w' (Also S w w') A x ∧ RdP w' (Also S w w') B y ∧ Below w.heap.size w w'
theorem lpassS_none {w w' : World} {S : Nat → Prop} {x y : List Ch} {bo : Bool} {o : Option (List Ch × List Ch)} (h : o = none) (ho : outF o = (x, y)) (hb : o.isSome = bo) (hw : Below w.heap.size w w') : LPassEndS w S x y bo (.returned (.tuple #[.slice none 0 0, .slice none 0 0, .bool false])) w' := by
  subst h
  injection ho with h1 h2
  subst h1 h2 hb
  exact ⟨none, 0, none, 0, rfl, Nat.le_refl _, Nat.le_refl _, .inl rfl, .inl rfl, hw⟩

/-- Between two rounds of Pass. -/
structure RefPInv (w W : World) (N : Nat → Prop) (A1 A3 : Option Addr) (n c1 k c3 : Nat) (a b x cur : List Ch) : Prop where
  eq : passF a (b.take k) = some (x, cur)
  src : SrcN W N A1 cur
  row : OwnS W N w.heap.size (.slice A3 k c3) x
  adr : cur = [] ∨ ∀ a, A1 = some a → Also N w W a.block
  cap : n ≤ c1
  lt : Lt cur
  len : cur.length = n
  lenx : x.length = k

set_option maxRecDepth 100000 in
set_option maxHeartbeats 8000000 in
theorem refPassS (S : Nat → Prop) (A : Option Addr) (n c : Nat) (A' : Option Addr) (n' c' : Nat) (a b x y : List Ch) (w : World) (bo : Bool) (hn : a.length = n) (hn' : b.length = n') (hle : n ≤ 1000) (hle' : n' ≤ 1000) (ha : Lt a) (hb : Lt b)
    (hS : ∀ b, S b → b < w.heap.size) (hcap : n ≤ c) (hR : RdP w S A a) (hR' : RdP w S A' b) (ho : outF (passF a b) = (x, y)) (hs : (passF a b).isSome = bo) :
    Calls Try.prog 67 #[.slice A n c, .slice A' n' c'] w (LPassEndS w S x y bo) := by
  have HR' := Lib.hid hR'; have HN := Lib.hid hn; have HN' := Lib.hid hn'; have HB := Lib.hid hb; have HO := Lib.hid ho; have HS := Lib.hid hs; have HSS := Lib.hid hS
  have HST : Hid (RefPInv w w S A none n c 0 0 a b [] a) := Lib.hid ⟨by rw [List.take_zero]; exact passL_nil _ _, flatP hR, ownS_nil _ _ _, (hR.imp id fun ⟨a', e, h, _⟩ a1 e1 => .inl (by rw [e] at e1; injection e1 with e1; rw [← e1]; exact h)), hcap, ha, hn, rfl⟩
  clear hR hR' hn hn' ha hb ho hs hS
  go_enter Try.func67, Try.ntmps67
  go_wp2
  go_loopw [0, 7, 8] (fun v0 v7 i wr => ∃ (k : Nat) (x1 cur : List Ch) (A1 A3 : Option Addr) (c1 c3 : Nat), k ≤ n' ∧ i = .int .i64 (k : Int) ∧ v0 = .slice A1 n c1 ∧ v7 = .slice A3 k c3 ∧ RefPInv w wr S A1 A3 n c1 k c3 a b x1 cur ∧ Below w.heap.size w wr) (fun _ _ i _ => n' - (intOf i).toNat)
  case atStart => exact ⟨0, [], a, A, none, c, 0, Nat.zero_le _, rfl, rfl, rfl, HST.out, Below.refl _ _⟩
  case round =>
    clear HST
    obtain ⟨k, x1, cur, A1, A3, c1, c3, hk, rfl, rfl, rfl, hI, hbw⟩ := hrel
    have HBW := Lib.hid hbw; have HI := Lib.hid hI
    clear hbw hI
    by_cases hlt : k < n'
    · have hki : (k : Int) < (n' : Int) := by omega
      obtain ⟨aa, q, D, m, f, D', m', f', rfl, hS, hx, g0, g1, g2, g3, g4, g5, g6⟩ := ((HR'.out.to ((alike_below HBW.out).mono HSS.out)).elem (k := k) (by rw [HN'.out]; exact hlt))
      have HX := Lib.hid hx; have HPG := Lib.hid g6; have HLQ := Lib.hid (HB.out q (List.mem_of_getElem? hx))
      clear hx g6 hS
      go_wp2_with fail
      refine (refOne S A1 n c1 D m f D' m' f' cur q wr HI.out.len hle (fun b h => Nat.lt_of_lt_of_le (HSS.out b h) HBW.out.size) HI.out.lt HLQ.out HI.out.src HPG.out).mono ?_
      rintro e w2 ⟨h1, h2, hb2⟩
      clear g0 g1 g2 g3 g4 g5
      cases hon : one passP cur q with
      | none =>
        obtain rfl := h2 hon
        have HE := Lib.hid (passL_step_none passP HI.out.eq HX.out hon)
        have HBW2 := Lib.hid (below_mv HBW.out hb2)
        clear h1 h2 hon hb2
        go_wp2
        go_ret3
        exact lpassS_none HE.out HO.out HS.out (HBW2.out.alloc HBW2.out.size _)
      | some z =>
        obtain ⟨q1, a1⟩ := z
        obtain ⟨v, rfl, hrow, hpg⟩ := h1 _ hon
        obtain ⟨A4, c4, hv, hcap4⟩ := ownS_slice hrow
        have hl1 : a1.length = n := by rw [one_len passP hon]; exact HI.out.len
        dsimp only at hrow hpg hv hcap4
        rw [hl1] at hv hcap4
        subst hv
        have hbA := two_box w2 (.cells #[.int .i64 q1.k, strV q1.nm, strV q1.to, .int .i64 q1.h.pos, .slice D m f, .slice D' m' f'] 54) (.cells #[.int .i64 q1.k, strV q1.nm, strV q1.to, .int .i64 q1.h.pos, .slice D m f, .slice D' m' f'] 54)
        have b3 := Blk.new (w2.alloc (.cells #[.int .i64 q1.k, strV q1.nm, strV q1.to, .int .i64 q1.h.pos, .slice D m f, .slice D' m' f'] 54)) 54 #[.int .i64 q1.k, strV q1.nm, strV q1.to, .int .i64 q1.h.pos, .slice D m f, .slice D' m' f']
        rw [World.size_alloc] at b3
        have hN2 : w.heap.size ≤ w2.heap.size := (below_mv HBW.out hb2).size
        have HRW := Lib.hid (hrow.below hbA)
        have HPC := Lib.hid (PCells.one (hpg.to_ ((alike_below (hbA.mono hN2)).mono HSS.out)))
        have HOX := Lib.hid ((HI.out.row.below hb2).below hbA)
        have hb3 := below_mv hb2 hbA
        have HB3 := Lib.hid b3; have HBW3 := Lib.hid (below_mv HBW.out hb3)
        have HEQ := Lib.hid (passL_step passP HI.out.eq HX.out hon)
        have HL1 := Lib.hid hl1; have HC4 := Lib.hid hcap4
        have HLT := Lib.hid (one_lt hon HI.out.lt HLQ.out).2
        have HRLT := Lib.hid (fun g (hg : (Value.slice A3 k c3).ownBlock = some g) => ownS_lt HI.out.row g hg)
        have hkl : x1.length ≤ 1000 := by rw [HI.out.lenx]; omega
        have HXL := Lib.hid HI.out.lenx
        clear h1 h2 hon hb2 hb3 hrow hpg hl1 hbA b3 hN2 hcap4
        go_wp2_with (at_builtin; refine wpList_ownC rfl (.tmp 30) (.tmp 32) rfl S w.heap.size 1 1 (.slice A3 k c3) (some ⟨w2.heap.size + 1, 0, none⟩) x1 [q1] _ rfl rfl HOX.out HPC.out rfl (.inr ⟨_, rfl, one_srcP HB3.out⟩) rfl (by omega) HSS.out HBW3.out.size ?_; intro v' W' ho' hg')
        obtain ⟨A5, c5, hv5, _⟩ := ownS_slice ho'
        rw [List.length_append, HXL.out] at hv5
        subst hv5
        have hrow' := HRW.out.gr hg' (fun g hg e => by have h1 := HRLT.out g e; have h2 := ownS_ge HRW.out g hg; omega) (fun b hb e => by have h2 := ownS_ge HOX.out b e; have := HSS.out b hb; omega)
        have hadr : a1 = [] ∨ ∀ a, A4 = some a → Also S w W' a.block := .inr fun a ea => by
          rcases hrow' with ⟨xs, hr, _⟩
          rcases hr.2 with ⟨e, _⟩ | ⟨g, cap, cur, e, hbg, hgb, _⟩
          · injection e with e; rw [e] at ea; cases ea
          · injection e with e
            rw [e] at ea
            injection ea with ea
            subst ea
            exact .inr ⟨Nat.le_trans HBW.out.size hbg, (Array.getElem?_eq_some_iff.1 hgb).1⟩
        refine ⟨⟨k + 1, x1 ++ [q1], a1, A4, A5, c4, c5, by omega, by go_num, rfl, rfl, ⟨HEQ.out, srcN_own hrow', ho', hadr, HC4.out, HLT.out, HL1.out, by rw [List.length_append, HXL.out]; rfl⟩, HBW3.out.grown hg' HBW3.out.size (fun g e => ownS_ge HOX.out g e)⟩, by simp [intOf]; omega⟩
    · have hkn : k = n' := by omega
      subst hkn
      have HE : Hid (passF a b = some (x1, cur)) := Lib.hid (by have := HI.out.eq; rw [List.take_of_length_le (by rw [HN'.out]; exact Nat.le_refl _)] at this; exact this)
      go_wp2
      go_ret3
      have ho := HO.out
      have hs := HS.out
      rw [HE.out] at ho hs
      injection ho with e1 e2
      subst e1 e2 hs
      obtain ⟨_, _, e1, k1⟩ := ownS_slice HI.out.row
      injection e1 with _ e0 e1
      rw [← e1, ← e0] at k1
      refine ⟨A3, c3, A1, c1, by rw [HI.out.lenx, HI.out.len]; rfl, by rw [HI.out.lenx]; exact k1, by rw [HI.out.len]; exact HI.out.cap, ?_, rdP_srcT HI.out.src (fun b h => .inl h) HI.out.adr, HBW.out⟩
      refine rdP_srcT (srcN_own HI.out.row) (fun b h => .inl h) (.inr fun a ea => ?_)
      obtain ⟨xs, hr, _⟩ := HI.out.row
      rcases hr.2 with ⟨e, _⟩ | ⟨g, cap, cur, e, hbg, hgb, _⟩
      · injection e with e; rw [e] at ea; cases ea
      · injection e with e
        rw [e] at ea
        injection ea with ea
        subst ea
        exact .inr ⟨hbg, (Array.getElem?_eq_some_iff.1 hgb).1⟩

end Fl
end Go.Proofs.Ytdnkinajbebkoaa

set_option maxRecDepth 100000
namespace Go.Proofs.Ytdnkinajbebkoaa
open Go.RowKit Go.Shelf
set_option linter.unusedVariables false
namespace Tg
open Tx Rg Fl Pn
attribute [local go_sem] Oper.semAt_some

/-- What a round must keep: the box in which the slice lies, and that its changes can be read. -/
def KpN (Bs : Nat) (A : Option Addr) (m : Nat) (W W' : World) : Prop := (∀ v, Boxed W Bs 22 v → Boxed W' Bs 22 v) ∧ (Cells5 W A m → Cells5 W' A m)
section
variable {Bs m : Nat} {A : Option Addr}
theorem kpN_t {W W1 W2 : World} (h : KpN Bs A m W W1) (k : KpN Bs A m W1 W2) : KpN Bs A m W W2 := ⟨fun v hv => k.1 v (h.1 v hv), fun hv => k.2 (h.2 hv)⟩
theorem kpN_b {l : Nat} (hB : Bs ≠ l) (W : World) (o o' : Obj) (h : W.heap[l]? = some o) (ho : o.isCells = false) : KpN Bs A m W (W.putObj l o') :=
  ⟨fun v hv => hv.kept (grownBy_putObj' W l o') (by simpa using hB), fun hv => hv.kc (keepC_plain (grownBy_putObj' W l o') (fun r e => by cases e; exact ⟨o, h, ho⟩))⟩
theorem kpN_new {W W' : World} (hg : W.grownBy W' none) : KpN Bs A m W W' := ⟨fun v hv => hv.kept hg (by simp), fun hv => hv.kc (keepC_plain hg (fun r e => by cases e))⟩
end

/-- What is handed over. -/
def EN (m : Nat) (A : Option Addr) (i : Nat) (vals : Array Value) (W : World) : Prop := i < m ∧ ∃ a v0 v1 v2 v3 v4, A = some a ∧ vals = #[.int .i64 (i : Int), .agg #[v0, v1, v2, v3, v4]] ∧
  W.cell? (a.add (i * 5)) = some v0 ∧ W.cell? ⟨(a.add (i * 5)).block, (a.add (i * 5)).off + 1, none⟩ = some v1 ∧ W.cell? ⟨(a.add (i * 5)).block, (a.add (i * 5)).off + 2, none⟩ = some v2 ∧
  W.cell? ⟨(a.add (i * 5)).block, (a.add (i * 5)).off + 3, none⟩ = some v3 ∧ W.cell? ⟨(a.add (i * 5)).block, (a.add (i * 5)).off + 4, none⟩ = some v4

theorem backN_in (n : Nat) (A : Option Addr) (l c : Nat) (w : World) :
    CallsIn Fence.wide n Try.prog 35 #[.slice A l c] w fun e w' => e = .returned (.func (.func 56) #[] #[.pointer (some ⟨w.heap.size, 0, none⟩)]) ∧ w' = w.alloc (.cells #[.slice A l c] 22) := by
  refine callsIn_of_wp Try.func35 rfl trivial ?_ rfl
  simp only [Try.ntmps35, List.size_toArray, List.length_cons, List.length_nil, Nat.reduceAdd, Nat.reduceSub, Array.replicate_succ, Array.replicate_zero, List.push_toArray, List.append_toArray, List.nil_append, List.cons_append]
  gi_wp2
  go_ret
  exact ⟨rfl, rfl⟩

set_option maxRecDepth 100000 in
set_option maxHeartbeats 2000000 in
theorem backN1_in (n l Bs cap m : Nat) (A : Option Addr) (hle : m ≤ 1000000) (J Jx : List Nat → World → Prop)
    (hY : ∀ pre x post vals W1, dn m = pre ++ x :: post → J pre W1 → EN m A x vals W1 → YieldAt Fence.wide (n - 1) Try.prog l vals W1 fun e W' =>
      (e = .returned (.bool true) ∧ J (pre ++ [x]) W' ∧ KpN Bs A m W1 W') ∨ (e = .returned (.bool false) ∧ Jx (pre ++ [x]) W'))
    (W : World) (hBs : Boxed W Bs 22 (.slice A m cap)) (hR : Cells5 W A m) (h0 : J [] W) :
    CallsIn Fence.wide n Try.prog 56 #[.func (.yield l) #[] #[], .pointer (some ⟨Bs, 0, none⟩)] W fun e W' => (∃ v, e = .returned v) ∧ (J (dn m) W' ∨ ∃ pre post, dn m = pre ++ post ∧ Jx pre W') := by
  have hc := hBs.cell
  refine callsIn_of_wp Try.func56 rfl trivial ?_ rfl
  simp only [Try.ntmps56, List.size_toArray, List.length_cons, List.length_nil, Nat.reduceAdd, Nat.reduceSub, Array.replicate_succ, Array.replicate_zero, List.push_toArray, List.append_toArray, List.nil_append, List.cons_append]
  gi_wp2
  gi_loopw [3] (fun i wr => ∃ k pre, k ≤ m ∧ i = .int .i64 ((k : Int) - 1) ∧ dn m = pre ++ dn k ∧ J pre wr ∧ Boxed wr Bs 22 (.slice A m cap) ∧ Cells5 wr A m) (fun i _ => (intOf i + 1).toNat)
  case atStart => exact ⟨m, [], Nat.le_refl _, rfl, rfl, h0, hBs, hR⟩
  case round =>
    clear hc
    obtain ⟨k, pre, hk, rfl, hb, hJs, hBs', hR'⟩ := hrel
    have HB := Lib.hid hb; clear hb
    have HR := Lib.hid hR'; clear hR'
    have hc := hBs'.cell
    cases k with
    | zero =>
      have e : (((0 : Nat) : Int) - 1) = -1 := rfl
      rw [e]; clear e
      gi_wp2
      go_end0
      exact ⟨⟨_, rfl⟩, .inl (by have := HB.out; rw [dn_zero, List.append_nil] at this; rw [this]; exact hJs)⟩
    | succ k =>
      have e : (((k + 1 : Nat) : Int) - 1) = (k : Int) := by omega
      rw [e]; clear e
      have HB2 : Hid (dn m = pre ++ k :: dn k) := Lib.hid (by rw [HB.out, dn_succ])
      clear HB
      obtain ⟨a, v0, v1, v2, v3, v4, rfl, c0, c1, c2, c3, c4⟩ := HR.out k (by omega)
      obtain ⟨fn, tmps, assign, body, hy, hRR⟩ := hY pre k _ #[.int .i64 (k : Int), .agg #[v0, v1, v2, v3, v4]] wr HB2.out hJs ⟨by omega, a, v0, v1, v2, v3, v4, rfl, rfl, c0, c1, c2, c3, c4⟩
      gi_wp2
      refine ⟨(fun h => by cases h), ?_⟩
      refine hRR.mono ?_
      rintro e W3 (⟨rfl, hJ3, hk3⟩ | ⟨rfl, hJx3⟩)
      · have hc3 := (hk3.1 _ hBs').cell
        clear c0 c1 c2 c3 c4
        gi_wp2
        go_roundw
        case rel => exact ⟨k, pre ++ [k], by omega, rfl, by rw [HB2.out]; simp, hJ3, hk3.1 _ hBs', hk3.2 HR.out⟩
        case measure => simp [intOf]
      · gi_wp2
        refine bodyPost_ret (results_none rfl _ _ _) rfl ?_
        exact ⟨⟨_, rfl⟩, .inr ⟨pre ++ [k], dn k, by rw [HB2.out]; simp, hJx3⟩⟩

theorem backN_gives (n Bs cap m : Nat) (A : Option Addr) (hle : m ≤ 1000000) (w : World) (hBs : Boxed w Bs 22 (.slice A m cap)) (hR : Cells5 w A m) :
    GivesE Try.prog Plain n 56 #[.pointer (some ⟨Bs, 0, none⟩)] (EN m A) (dn m) (KpN Bs A m) w := fun J Jx W hW hs _ _ hY h0 =>
  backN1_in n _ Bs cap m A hle J Jx (fun pre x post vals W1 h1 h2 h3 => yield_less (hY pre x post vals W1 h1 h2 h3)) W ((hW.block Bs hBs.lt).trans hBs) (cells5_below hR hW) h0

end Tg
end Go.Proofs.Ytdnkinajbebkoaa

set_option maxRecDepth 100000
namespace Go.Proofs.Ytdnkinajbebkoaa
open Go.RowKit Go.Shelf
set_option linter.unusedVariables false
set_option linter.unusedSimpArgs false
namespace Tg
open Tx Df Sq Hk Tr Pr Rg Fl Pn

abbrev noC : Array Value := #[.int .i64 0, .int .i64 0, .slice none 0 0, .string ⟨#[]⟩, .slice none 0 0]
/-- What there was ahead of Over, and the blocks that it keeps for itself: boxes, the first one's box, the row, the row's box. -/
def OvR (z F g : Nat) : Nat → Prop := fun b => b < z + 4 ∨ b = F ∨ b = g ∨ b = g + 1
theorem overN_len {l m : List Nm} {q x : Nm} (h : overN l q = some (x, m)) : m.length = l.length := one_len passN h
theorem passN_lt {p q x y : Nm} (h : passN p q = some (x, y)) (hp : Lt p.l) (hq : Lt q.l) : Lt x.l ∧ Lt y.l := passF_lt (passN_inv h).2.1 hp hq
/-- What is told lies at places that patches may have. -/
structure OvI (w : World) (z F g n : Nat) (A : Option Addr) (l : List Nm) (q : Nm) (dn m j : Nat) (x : Nm) (post : List Nm) (D : Option Addr) (dc : Nat) (E : Option Addr) (k : Nat) (W : World) : Prop where
  pos : w.heap.size = z ∧ z + 4 ≤ F ∧ F < g
  eq : overN (l.drop j) q = some (x, post)
  lx : Lt x.l
  row : OwnT W (But W (OvR z F g)) w.heap.size (.slice (some ⟨g, 0, none⟩) n n) (List.replicate j noN ++ post)
  ng : NG W (But W (OvR z F g)) D dn dc E m k x
  bf : Blk W F 45 (nmC x D dn dc E m k)
  r0 : Blk W (z + 1) 45 noC
  r1 : Blk W (z + 1 + 1) 22 #[.slice none 0 0]
  r2 : Blk W (z + 1 + 1 + 1) 4 #[.bool false]
  bb : Blk W (g + 1) 22 #[.slice (some ⟨g, 0, none⟩) n n]
  ls : RdN W z A l
  fr : Below w.heap.size w W
def OvJ (w : World) (z F g n : Nat) (A : Option Addr) (l : List Nm) (q : Nm) (dn m : Nat) (pre : List Nat) (W : World) : Prop := ∃ x post D dc E k, OvI w z F g n A l q dn m (n - pre.length) x post D dc E k W
def OvX (w : World) (z : Nat) (l : List Nm) (q : Nm) (c : Code) (_ : List Nat) (W : World) : Prop :=
  c = .ret ∧ overN l q = none ∧ Blk W (z + 1) 45 noC ∧ Blk W (z + 1 + 1) 22 #[.slice none 0 0] ∧ Blk W (z + 1 + 1 + 1) 4 #[.bool false] ∧ Below w.heap.size w W

section
variable {W W' : World} {B : Nat} {A D E : Option Addr} {dn dc n c : Nat} {p : Nm} {l : List Nm}
theorem NV.kc_ (h : NV W B D dn dc A n c p) (hk : KeepC (fun _ => True) W W') : NV W' B D dn dc A n c p := ((ng_of h).kc fun b c t f _ hb => hk b c t f trivial hb).nv
theorem RdN.kc_ (h : RdN W B A l) (hk : KeepC (fun _ => True) W W') : RdN W' B A l := h.imp id fun ⟨a, e, h1, h2⟩ => ⟨a, e, h1, fun k x hx => by
  obtain ⟨c0, c1, c3, D, dn, dc, A, n, c, c2, c4, c5⟩ := h2 k x hx
  exact ⟨hk.cell trivial c0, hk.cell trivial c1, hk.cell trivial c3, D, dn, dc, A, n, c, hk.cell trivial c2, hk.cell trivial c4, NV.kc_ c5 hk⟩⟩
end
section
variable {w : World} {z F g n B : Nat} {A : Option Addr} {l : List Nm} {q : Nm} {dn m : Nat}
theorem ovJ_ab (hB : w.heap.size ≤ B) : Ab Plain B (OvJ w z F g n A l q dn m) := fun s W W' row hs hg hr => by
  obtain ⟨x, post, D, dc, E, k, h⟩ := hs
  have bl : ∀ {b : Nat} {t : TypeId} {cs : Array Value}, Blk W b t cs → Blk W' b t cs := fun h => ab_blk (β := Unit) (B := B) (fun _ => _) () W W' row h hg hr
  have kc : ∀ S, KeepC S W W' := fun S => keepC_plain hg (fun r e => (hr r e).2)
  exact ⟨x, post, D, dc, E, k, h.pos, h.eq, h.lx, (h.row.plain hg (fun r e => (hr r e).2)).mono (but_up hg.size), (h.ng.kc (kc _)).mono (but_up hg.size), bl h.bf, bl h.r0, bl h.r1, bl h.r2, bl h.bb, RdN.kc_ h.ls (kc _), h.fr.grown hg h.fr.size (fun r e => Nat.le_trans hB (hr r e).1)⟩
theorem ovX_ab (hB : w.heap.size ≤ B) (c : Code) : Ab Plain B (OvX w z l q c) := fun s W W' row hs hg hr => by
  obtain ⟨h1, h2, h3, h4, h5, h6⟩ := hs
  have bl : ∀ {b : Nat} {t : TypeId} {cs : Array Value}, Blk W b t cs → Blk W' b t cs := fun h => ab_blk (β := Unit) (B := B) (fun _ => _) () W W' row h hg hr
  exact ⟨h1, h2, bl h3, bl h4, bl h5, h6.grown hg h6.size (fun r e => Nat.le_trans hB (hr r e).1)⟩
end
/-- The values that are handed over, with the cells they come from. -/
theorem ab_EN {β : Type} {n : Nat} {A : Option Addr} {i : Nat} {vals : Array Value} {B : Nat} : Ab (β := β) Plain B (fun _ W => EN n A i vals W) := fun s W W' row hs hg hr => by
  have hk : KeepC (fun _ => True) W W' := keepC_plain hg (fun r e => (hr r e).2)
  obtain ⟨hi, a, v0, v1, v2, v3, v4, h1, h2, c0, c1, c2, c3, c4⟩ := hs
  exact ⟨hi, a, v0, v1, v2, v3, v4, h1, h2, hk.cell trivial c0, hk.cell trivial c1, hk.cell trivial c2, hk.cell trivial c3, hk.cell trivial c4⟩
theorem EN.rd {X : World} {B n i : Nat} {A : Option Addr} {l : List Nm} {vals : Array Value} (h : EN n A i vals X) (hr : RdN X B A l) (hl : l.length = n) :
    ∃ p D dn dc E m k, l[i]? = some p ∧ vals = #[.int .i64 (i : Int), .agg (nmC p D dn dc E m k)] ∧ NV X B D dn dc E m k p := by
  obtain ⟨hi, a, v0, v1, v2, v3, v4, rfl, rfl, c0, c1, c2, c3, c4⟩ := h
  obtain ⟨a', p, D, dn, dc, E, m, k, e, _, hp, g0, g1, g2, g3, g4, hv⟩ := hr.elem (k := i) (by omega)
  injection e with e
  subst e
  have e0 := Option.some.inj (c0.symm.trans g0)
  have e1 := Option.some.inj (c1.symm.trans g1)
  have e2 := Option.some.inj (c2.symm.trans g2)
  have e3 := Option.some.inj (c3.symm.trans g3)
  have e4 := Option.some.inj (c4.symm.trans g4)
  subst e0 e1 e2 e3 e4
  exact ⟨p, D, dn, dc, E, m, k, hp, rfl, hv⟩
theorem valsN_eq {i : Int} {v0 v1 v2 v3 v4 : Value} {p : Nm} {D E : Option Addr} {dn dc m k : Nat} (h : #[Value.int .i64 i, .agg #[v0, v1, v2, v3, v4]] = #[.int .i64 i, .agg (nmC p D dn dc E m k)]) :
    v0 = .int .i64 p.id.1 ∧ v1 = .int .i64 p.id.2 ∧ v2 = .slice D dn dc ∧ v3 = strV p.txt ∧ v4 = .slice E m k := by
  simpa using h

theorem rep_set {i : Nat} {post : List Nm} {y : Nm} : (List.replicate (i + 1) noN ++ post).set i y = List.replicate i noN ++ y :: post := by
  rw [List.replicate_succ', List.append_assoc, List.set_append_right _ _ (by simp), List.length_replicate, Nat.sub_self]
  rfl
theorem rep_len {i n : Nat} {l post : List Nm} {q x : Nm} (h : overN (l.drop i) q = some (x, post)) (hl : l.length = n) (hi : i ≤ n) : (List.replicate i noN ++ post).length = n := by
  rw [List.length_append, List.length_replicate, overN_len h, List.length_drop]; omega

section
variable {w W W' X : World} {r : Option Nat} {B b g k : Nat} {v0 v1 v2 v3 v4 : Value}
theorem keeps_set5 (W : World) (B b : Nat) (v0 v1 v2 v3 v4 : Value) : KeepsFrom B W (((((W.setCell ⟨b, 0, none⟩ v0).setCell ⟨b, 1, none⟩ v1).setCell ⟨b, 2, none⟩ v2).setCell ⟨b, 3, none⟩ v3).setCell ⟨b, 4, none⟩ v4) :=
  (((((KeepsOthers.setCell _ _ _).from B).trans ((KeepsOthers.setCell _ _ _).from B)).trans ((KeepsOthers.setCell _ _ _).from B)).trans ((KeepsOthers.setCell _ _ _).from B)).trans ((KeepsOthers.setCell _ _ _).from B)
theorem keeps_row5 (W : World) (B b k : Nat) (v0 v1 v2 v3 v4 : Value) : KeepsFrom B W (((((W.setCell ⟨b, k * 5, none⟩ v0).setCell ⟨b, k * 5 + 1, none⟩ v1).setCell ⟨b, k * 5 + 2, none⟩ v2).setCell ⟨b, k * 5 + 3, none⟩ v3).setCell ⟨b, k * 5 + 4, none⟩ v4) :=
  (((((KeepsOthers.setCell _ _ _).from B).trans ((KeepsOthers.setCell _ _ _).from B)).trans ((KeepsOthers.setCell _ _ _).from B)).trans ((KeepsOthers.setCell _ _ _).from B)).trans ((KeepsOthers.setCell _ _ _).from B)
end
theorem RdN.alk {W W' : World} {B : Nat} {A : Option Addr} {l : List Nm} (h : RdN W B A l) (ha : Fl.Alike (· < B) W W') : RdN W' B A l := h.imp id fun ⟨a, e, h1, h2⟩ => ⟨a, e, h1, fun k x hx => by
  obtain ⟨c0, c1, c3, D, dn, dc, A, n, c, c2, c4, c5⟩ := h2 k x hx
  have hk : (a.add (k * 5)).block < B := by rw [add_block]; exact h1
  exact ⟨Fl.cell_to ha hk c0, Fl.cell_to ha hk c1, Fl.cell_to ha hk c3, D, dn, dc, A, n, c, Fl.cell_to ha hk c2, Fl.cell_to ha hk c4, ((ng_of c5).to_ ha).nv⟩⟩

theorem OvI.mv {w W W' : World} {z F g n : Nat} {A : Option Addr} {l : List Nm} {q : Nm} {dn m j : Nat} {x : Nm} {post : List Nm} {D : Option Addr} {dc : Nat} {E : Option Addr} {k : Nat} (h : OvI w z F g n A l q dn m j x post D dc E k W) (hb : Below W.heap.size W W') : OvI w z F g n A l q dn m j x post D dc E k W' :=
  ⟨h.pos, h.eq, h.lx, (h.row.below hb).mono (but_up hb.size), (h.ng.to_ (fun b _ hl => hb.block b hl)).mono (but_up hb.size), h.bf.below hb h.bf.lt, h.r0.below hb h.r0.lt, h.r1.below hb h.r1.lt, h.r2.below hb h.r2.lt, h.bb.below hb h.bb.lt, h.ls.below (hb.mono (by have := h.pos; have := h.r0.lt; omega)), below_mv h.fr hb⟩

/-- A round that tells that the patch can't pass. -/
theorem over_no {w X w2 : World} {z F g n i : Nat} {A : Option Addr} {l : List Nm} {q x p : Nm} {dn m : Nat} {post : List Nm} {D : Option Addr} {dc : Nat} {E : Option Addr} {k B : Nat} {pre : List Nat} (hI : OvI w z F g n A l q dn m (i + 1) x post D dc E k X) (hb2 : Below X.heap.size X w2) (hx : l[i]? = some p) (hn : passN p x = none) (o o' : Obj) :
    KeepsFrom B X (((((World.setCell (World.setCell (World.setCell (World.setCell (World.setCell w2 ⟨z + 1, 0, none⟩ (.int .i64 0)) ⟨z + 1, 1, none⟩ (.int .i64 0)) ⟨z + 1, 2, none⟩ (.slice none 0 0)) ⟨z + 1, 3, none⟩ (.string ⟨#[]⟩)) ⟨z + 1, 4, none⟩ (.slice none 0 0)).setCell ⟨z + 1 + 1, 0, none⟩ (.slice none 0 0)).setCell ⟨z + 1 + 1 + 1, 0, none⟩ (.bool false)).alloc o).alloc o') ∧
    OvX w z l q .ret pre (((((World.setCell (World.setCell (World.setCell (World.setCell (World.setCell w2 ⟨z + 1, 0, none⟩ (.int .i64 0)) ⟨z + 1, 1, none⟩ (.int .i64 0)) ⟨z + 1, 2, none⟩ (.slice none 0 0)) ⟨z + 1, 3, none⟩ (.string ⟨#[]⟩)) ⟨z + 1, 4, none⟩ (.slice none 0 0)).setCell ⟨z + 1 + 1, 0, none⟩ (.slice none 0 0)).setCell ⟨z + 1 + 1 + 1, 0, none⟩ (.bool false)).alloc o).alloc o') := by
  have h0 := hI.r0.below hb2 hI.r0.lt
  have h1 := hI.r1.below hb2 hI.r1.lt
  have h2 := hI.r2.below hb2 hI.r2.lt
  have hz := hI.pos.1
  refine ⟨((((((keepsFrom_below B hb2).trans (keeps_set5 w2 B (z + 1) _ _ _ _ _)).trans ((KeepsOthers.setCell _ _ _).from B)).trans ((KeepsOthers.setCell _ _ _).from B)).trans ((KeepsOthers.alloc _ o).from B)).trans ((KeepsOthers.alloc _ o').from B)), rfl, one_step_none passN hx hI.eq hn, ?_, ?_, ?_, ?_⟩
  · exact ((((blk5 h0 (.int .i64 0) (.int .i64 0) (.slice none 0 0) (.string ⟨#[]⟩) (.slice none 0 0)).set_ne (by omega) 0 (.slice none 0 0)).set_ne (by omega) 0 (.bool false)).alloc o).alloc o'
  · exact ((((blk_set5 h1 (g := z + 1) (by omega) (.int .i64 0) (.int .i64 0) (.slice none 0 0) (.string ⟨#[]⟩) (.slice none 0 0)).set 0 (.slice none 0 0)).set_ne (by omega) 0 (.bool false)).alloc o).alloc o'
  · exact ((((blk_set5 h2 (g := z + 1) (by omega) (.int .i64 0) (.int .i64 0) (.slice none 0 0) (.string ⟨#[]⟩) (.slice none 0 0)).set_ne (by omega) 0 (.slice none 0 0)).set 0 (.bool false)).alloc o).alloc o'
  · have h5 := below_set5 (below_mv hI.fr hb2) (show w.heap.size ≤ z + 1 by omega) (.int .i64 0) (.int .i64 0) (.slice none 0 0) (.string ⟨#[]⟩) (.slice none 0 0)
    have h6 := (h5.setCell (p := ⟨z + 1 + 1, 0, none⟩) (show w.heap.size ≤ z + 1 + 1 by omega) (.slice none 0 0)).setCell (p := ⟨z + 1 + 1 + 1, 0, none⟩) (show w.heap.size ≤ z + 1 + 1 + 1 by omega) (.bool false)
    have h7 := h6.alloc h6.size o
    exact h7.alloc h7.size o'

/-- A round in which both pass: first the patch is stored, then the one of the list. -/
theorem over_mid {w X w2 w4 : World} {z F g n i : Nat} {A : Option Addr} {l : List Nm} {q x x1 y1 : Nm} {dn m : Nat} {post : List Nm} {D : Option Addr} {dc : Nat} {E : Option Addr} {k : Nat} {D1 E1 D2 E2 : Option Addr} {c1 k1 d2 c2 m2 k2 : Nat}
    (hI : OvI w z F g n A l q dn m (i + 1) x post D dc E k X) (hb2 : Below X.heap.size X w2) (hb4 : Below w2.heap.size w2 w4) (n1 : NG w2 (Since X w2) D1 dn c1 E1 m k1 x1) (n2 : NG w2 (Since X w2) D2 d2 c2 E2 m2 k2 y1) :
    let w6 := ((((w4.setCell ⟨F, 0, none⟩ (.int .i64 x1.id.1)).setCell ⟨F, 1, none⟩ (.int .i64 x1.id.2)).setCell ⟨F, 2, none⟩ (.slice D1 dn c1)).setCell ⟨F, 3, none⟩ (strV x1.txt)).setCell ⟨F, 4, none⟩ (.slice E1 m k1)
    OwnT w6 (But w6 (OvR z F g)) w.heap.size (.slice (some ⟨g, 0, none⟩) n n) (List.replicate (i + 1) noN ++ post) ∧ NG w6 (But w6 (OvR z F g)) D1 dn c1 E1 m k1 x1 ∧ NG w6 (But w6 (OvR z F g)) D2 d2 c2 E2 m2 k2 y1 ∧
    Blk w6 F 45 (nmC x1 D1 dn c1 E1 m k1) ∧ Blk w6 (z + 1) 45 noC ∧ Blk w6 (z + 1 + 1) 22 #[.slice none 0 0] ∧ Blk w6 (z + 1 + 1 + 1) 4 #[.bool false] ∧ Blk w6 (g + 1) 22 #[.slice (some ⟨g, 0, none⟩) n n] ∧ RdN w6 z A l ∧ Below w.heap.size w w6 ∧
    (∀ B, KeepsFrom B X w6) ∧ (∀ Bs v, Bs ≠ F → Boxed X Bs 22 v → Boxed w6 Bs 22 v) := by
  intro w6
  obtain ⟨hz, hF, hFg⟩ := hI.pos
  have hX : g + 1 < X.heap.size := hI.bb.lt
  have hb : Below X.heap.size X w4 := hb2.trans (hb4.mono hb2.size)
  have hs4 : w4.heap.size = w6.heap.size := by simp [w6]
  have h2 : w2.heap.size ≤ w4.heap.size := hb4.size
  have hS : ∀ b, Since X w2 b → But w4 (OvR z F g) b := fun b h => ⟨by have := h.2; omega, fun e => by have := h.1; rcases e with e | e | e | e <;> omega⟩
  have hne : ∀ b, But w4 (OvR z F g) b → b ≠ F := fun b h e => h.2 (.inr (.inl e))
  have al := (alike_set5 w4 F (.int .i64 x1.id.1) (.int .i64 x1.id.2) (.slice D1 dn c1) (strV x1.txt) (.slice E1 m k1))
  have up := but_up (R := OvR z F g) (Nat.le_of_eq hs4)
  have l0 := hI.r0.lt; have l1 := hI.r1.lt; have l2 := hI.r2.lt; have l3 := hI.bf.lt
  refine ⟨?_, ?_, ?_, ?_, ?_, ?_, ?_, ?_, ?_, ?_, ?_, ?_⟩
  · exact (((hI.row.below hb).mono (but_up hb.size)).set5 (b := F) (fun e => by injection e with e; have e : F = g := e; omega) (fun h => hne _ h rfl) _ _ _ _ _).mono up
  · exact (((n1.to_ (fun b h hl => hb4.block b hl)).mono hS).to_ (al.mono hne)).mono up
  · exact (((n2.to_ (fun b h hl => hb4.block b hl)).mono hS).to_ (al.mono hne)).mono up
  · exact blk5 (hI.bf.below hb l3) _ _ _ _ _
  · exact blk_set5 (hI.r0.below hb l0) (by omega) _ _ _ _ _
  · exact blk_set5 (hI.r1.below hb l1) (by omega) _ _ _ _ _
  · exact blk_set5 (hI.r2.below hb l2) (by omega) _ _ _ _ _
  · exact blk_set5 (hI.bb.below hb hX) (by omega) _ _ _ _ _
  · exact RdN.alk (hI.ls.below (hb.mono (by omega))) (al.mono fun b hb => by omega)
  · exact below_set5 (below_mv hI.fr hb) (by omega) _ _ _ _ _
  · exact fun B => (keepsFrom_below B hb).trans (keeps_set5 _ _ _ _ _ _ _ _)
  · exact fun Bs v hB hv => blk_set5 (Blk.below (show Blk X Bs 22 #[v] from hv) hb hv.lt) (by omega) _ _ _ _ _

theorem over_fin {w w6 : World} {z F g n i : Nat} {A : Option Addr} {l : List Nm} {q x p x1 y1 : Nm} {dn m : Nat} {post : List Nm} {D1 E1 D2 E2 : Option Addr} {c1 k1 d2 c2 m2 k2 : Nat}
    (hp : w.heap.size = z ∧ z + 4 ≤ F ∧ F < g) (he : overN (l.drop (i + 1)) q = some (x, post)) (hlx : Lt x.l) (hx : l[i]? = some p) (hlp : Lt p.l) (hn : l.length = n) (hs : passN p x = some (x1, y1))
    (h1 : OwnT w6 (But w6 (OvR z F g)) w.heap.size (.slice (some ⟨g, 0, none⟩) n n) (List.replicate (i + 1) noN ++ post)) (h2 : NG w6 (But w6 (OvR z F g)) D1 dn c1 E1 m k1 x1) (h3 : NG w6 (But w6 (OvR z F g)) D2 d2 c2 E2 m2 k2 y1)
    (h4 : Blk w6 F 45 (nmC x1 D1 dn c1 E1 m k1)) (h5 : Blk w6 (z + 1) 45 noC) (h6 : Blk w6 (z + 1 + 1) 22 #[.slice none 0 0]) (h7 : Blk w6 (z + 1 + 1 + 1) 4 #[.bool false]) (h8 : Blk w6 (g + 1) 22 #[.slice (some ⟨g, 0, none⟩) n n]) (h9 : RdN w6 z A l) (h10 : Below w.heap.size w w6) :
    let w9 := ((((w6.setCell ⟨g, i * 5, none⟩ (.int .i64 y1.id.1)).setCell ⟨g, i * 5 + 1, none⟩ (.int .i64 y1.id.2)).setCell ⟨g, i * 5 + 2, none⟩ (.slice D2 d2 c2)).setCell ⟨g, i * 5 + 3, none⟩ (strV y1.txt)).setCell ⟨g, i * 5 + 4, none⟩ (.slice E2 m2 k2)
    OvI w z F g n A l q dn m i x1 (y1 :: post) D1 c1 E1 k1 w9 ∧ (∀ B, KeepsFrom B w6 w9) ∧ (∀ Bs v, Bs ≠ g → Boxed w6 Bs 22 v → Boxed w9 Bs 22 v) := by
  intro w9
  obtain ⟨hz, hF, hFg⟩ := hp
  have hi : i < l.length := (List.getElem?_eq_some_iff.1 hx).1
  have hs9 : w6.heap.size = w9.heap.size := by simp [w9]
  have hne : ∀ b, But w6 (OvR z F g) b → b ≠ g := fun b h e => h.2 (.inr (.inr (.inl e)))
  have up := but_up (R := OvR z F g) (Nat.le_of_eq hs9)
  have al := alike_row5 w6 g i (.int .i64 y1.id.1) (.int .i64 y1.id.2) (.slice D2 d2 c2) (strV y1.txt) (.slice E2 m2 k2)
  have hrow : OwnT w9 (But w9 (OvR z F g)) w.heap.size (.slice (some ⟨g, 0, none⟩) n n) (List.replicate i noN ++ y1 :: post) := by
    have := (h1.store (k := i) (rep_len he hn (by omega)) (fun h => hne _ h rfl) h3).mono up
    rw [rep_set] at this
    exact this
  refine ⟨⟨⟨hz, hF, hFg⟩, one_step passN hx he hs, (passN_lt hs hlp hlx).1, hrow, ?_, ?_, ?_, ?_, ?_, ?_, ?_, ?_⟩, fun B => keeps_row5 _ _ _ _ _ _ _ _ _, fun Bs v hB hv => ?_⟩
  · exact (h2.to_ (al.mono hne)).mono up
  · exact blk_row5 h4 (by omega) i _ _ _ _ _
  · exact blk_row5 h5 (by omega) i _ _ _ _ _
  · exact blk_row5 h6 (by omega) i _ _ _ _ _
  · exact blk_row5 h7 (by omega) i _ _ _ _ _
  · exact blk_row5 h8 (by omega) i _ _ _ _ _
  · exact RdN.alk h9 (al.mono fun b hb => by omega)
  · exact below_row5 h10 (by omega) i _ _ _ _ _
  · exact blk_row5 (show Blk w6 Bs 22 #[v] from hv) hB i _ _ _ _ _

/-- The row that is made: patches that have nothing. -/
theorem made_at {c : Array Value} {n i : Nat} (hi : i < n) : (madeCells c n)[i]? = some c[i % c.size]! := by
  unfold madeCells
  rw [Array.getElem?_map, Array.getElem?_range, if_pos hi]
  rfl
theorem ownT_made (W : World) (n : Nat) (S : Nat → Prop) (hn : n ≤ 1000) : OwnT (W.alloc (.cells (madeCells noC (n * 5)) 45)) S W.heap.size (.slice (some ⟨W.heap.size, 0, none⟩) n n) (List.replicate n noN) := by
  have hrow := World.ownsRow_lit (base := W.heap.size) (e := 45) (size := 5) W (madeCells noC (n * 5)) n (Nat.le_refl _) (by unfold maxLen; omega) (by rw [size_madeCells])
  refine ⟨_, by rw [List.length_replicate]; exact hrow, fun k x hx => ?_⟩
  have hk := (List.getElem?_eq_some_iff.1 hx).1
  rw [List.length_replicate] at hk
  rw [List.getElem?_replicate, if_pos hk] at hx
  injection hx with hx
  subst hx
  have key : ∀ j, j < 5 → (madeCells noC (n * 5)).toList[k * 5 + j]? = some noC[j]! := fun j hj => by
    rw [Array.getElem?_toList, made_at (by omega)]
    have e : (k * 5 + j) % noC.size = j := by
      show (k * 5 + j) % 5 = j
      omega
    rw [e]
  exact ⟨none, 0, 0, none, 0, 0, key 0 (by decide), key 1 (by decide), key 2 (by decide), key 3 (by decide), key 4 (by decide), ng_no _ _⟩

/-- The memory in which the range begins. -/
theorem over_start {w w1 wc : World} {z F n dn m c k : Nat} {A D E : Option Addr} {l : List Nm} {q : Nm} (hz : w.heap.size = z) (hw1 : w1.heap.size = z + 4) (hbw : Below w.heap.size w w1)
    (r0 : Blk w1 (z + 1) 45 noC) (r1 : Blk w1 (z + 1 + 1) 22 #[.slice none 0 0]) (r2 : Blk w1 (z + 1 + 1 + 1) 4 #[.bool false])
    (hbf : Blk wc F 45 (nmC q D dn c E m k)) (hng : NG wc (fun b => w1.heap.size ≤ b ∧ b < wc.heap.size ∧ b ≠ F) D dn c E m k q) (hF : w1.heap.size ≤ F) (hb : Below w1.heap.size w1 wc) (hls : RdN w w.heap.size A l) (hl : l.length = n) (hn : n ≤ 1000) (hlq : Lt q.l) (c' : Nat) :
    let w5 := ((wc.alloc (.cells (madeCells noC (n * 5)) 45)).alloc (.cells #[.slice (some ⟨wc.heap.size, 0, none⟩) n n] 22)).alloc (.cells #[.slice A n c'] 22)
    OvJ w z F wc.heap.size n A l q dn m [] w5 ∧ Boxed w5 (wc.heap.size + 1 + 1) 22 (.slice A n c') ∧ w5.heap.size = wc.heap.size + 3 ∧ Cells5 w5 A n := by
  intro w5
  have hwc : w1.heap.size ≤ wc.heap.size := hb.size
  have h5 : Below wc.heap.size wc w5 := (((Below.refl _ _).alloc (Nat.le_refl _) _).alloc (by simp) _).alloc (by simp; omega) _
  have hsz : w5.heap.size = wc.heap.size + 3 := by simp [w5]
  have hall : Below w1.heap.size w1 w5 := below_mv hb h5
  have hbb := (Blk.new (wc.alloc (.cells (madeCells noC (n * 5)) 45)) 22 #[.slice (some ⟨wc.heap.size, 0, none⟩) n n]).alloc (.cells #[.slice A n c'] 22)
  have hbx := Boxed.new ((wc.alloc (.cells (madeCells noC (n * 5)) 45)).alloc (.cells #[.slice (some ⟨wc.heap.size, 0, none⟩) n n] 22)) 22 (.slice A n c')
  simp only [World.size_alloc] at hbb hbx
  have hFl := hbf.lt
  have hmd := ownT_made wc n (But w5 (OvR z F wc.heap.size)) hn
  have hm2 : Below (wc.alloc (.cells (madeCells noC (n * 5)) 45)).heap.size (wc.alloc (.cells (madeCells noC (n * 5)) 45)) w5 := ((Below.refl _ _).alloc (Nat.le_refl _) _).alloc (by simp) _
  have hls5 : RdN w5 z A l := by
    rw [← hz]
    exact hls.below (below_mv hbw hall)
  refine ⟨⟨q, [], D, c, E, k, ⟨hz, by omega, hFl⟩, ?_, hlq, ?_, ?_, hbf.below h5 hFl, r0.below hall r0.lt, r1.below hall r1.lt, r2.below hall r2.lt, hbb, hls5, below_mv hbw hall⟩, hbx, hsz, cells5_rd hls5 hl⟩
  · rw [List.length_nil, Nat.sub_zero, List.drop_of_length_le (by rw [hl]; exact Nat.le_refl _)]; rfl
  · rw [List.length_nil, Nat.sub_zero, List.append_nil]
    obtain ⟨xs, x1, x2⟩ := hmd.below hm2
    exact ⟨xs, own_mono x1 (Nat.le_trans hbw.size hwc), x2⟩
  · refine (hng.to_ ((alike_below h5).mono fun b hb => hb.2.1)).mono fun b hb => ⟨by have := hb.2.1; omega, fun e => ?_⟩
    have h1 := hb.1; have h2 := hb.2.1; have h3 := hb.2.2
    rcases e with e | e | e | e <;> omega

/-- How Over ends that tells x, ys and bo: in memory that is new, the list in a row of one's own. -/
def NOverEnd (w : World) (x : Nm) (ys : List Nm) (bo : Bool) (e : Ending) (w' : World) : Prop :=
  ∃ D d c E m k v, e = .returned (.tuple #[nmV x.id D d c x.txt E m k, v, .bool bo]) ∧ NG w' (fun b => Since w w' b ∧ some b ≠ v.ownBlock) D d c E m k x ∧ OwnT w' (fun b => Since w w' b ∧ some b ≠ v.ownBlock) w.heap.size v ys ∧ Below w.heap.size w w'
def outO (o : Option (Nm × List Nm)) : Nm × List Nm := o.getD (noN, [])

theorem over_put {w W : World} {E : Nat} (hE : w.heap.size ≤ E) (hK : W.heap[E]? = some (.deferred (some []))) (hb : Below w.heap.size w W) : Below w.heap.size w (W.putObj E (.deferred none)) ∧ (∀ b t cs, Blk W b t cs → Blk (W.putObj E (.deferred none)) b t cs) ∧
    (∀ S base v l, OwnT W S base v l → OwnT (W.putObj E (.deferred none)) S base v l) ∧ (∀ S D dn dc A n c x, NG W S D dn dc A n c x → NG (W.putObj E (.deferred none)) S D dn dc A n c x) ∧ W.heap.size = (W.putObj E (.deferred none)).heap.size := by
  have hp := grownBy_putObj' W E (.deferred none)
  have hr : ∀ r, some E = some r → ∃ o : Obj, W.heap[r]? = some o ∧ o.isCells = false := fun r e => by injection e with e; subst e; exact ⟨_, hK, rfl⟩
  refine ⟨hb.grown hp hb.size (fun r e => by injection e with e; omega), fun b t cs h => h.gr hp (fun e => ?_), fun S base v l h => h.plain hp hr, fun S D dn dc A n c x h => h.kc (keepC_plain hp hr), by simp⟩
  injection e with e
  subst e
  rw [show W.heap[b]? = _ from h] at hK
  cases hK

theorem over_done {w W : World} {z F g n E : Nat} {A : Option Addr} {l : List Nm} {q x : Nm} {dn m : Nat} {post : List Nm} {D : Option Addr} {dc : Nat} {Ad : Option Addr} {k : Nat}
    (hI : OvI w z F g n A l q dn m 0 x post D dc Ad k W) (hE : w.heap.size ≤ E) (hK : W.heap[E]? = some (.deferred (some []))) :
    let W9 := ((World.setCell (World.setCell (World.setCell (World.setCell (World.setCell W ⟨z + 1, 0, none⟩ (.int .i64 x.id.1)) ⟨z + 1, 1, none⟩ (.int .i64 x.id.2)) ⟨z + 1, 2, none⟩ (.slice D dn dc)) ⟨z + 1, 3, none⟩ (strV x.txt)) ⟨z + 1, 4, none⟩ (.slice Ad m k)).setCell ⟨z + 1 + 1, 0, none⟩ (.slice (some ⟨g, 0, none⟩) n n)).setCell ⟨z + 1 + 1 + 1, 0, none⟩ (.bool true)
    W9.heap[E]? = some (.deferred (some [])) ∧ Blk (W9.putObj E (.deferred none)) (z + 1) 45 (nmC x D dn dc Ad m k) ∧ Blk (W9.putObj E (.deferred none)) (z + 1 + 1) 22 #[.slice (some ⟨g, 0, none⟩) n n] ∧ Blk (W9.putObj E (.deferred none)) (z + 1 + 1 + 1) 4 #[.bool true] ∧
      NG (W9.putObj E (.deferred none)) (fun b => Since w (W9.putObj E (.deferred none)) b ∧ some b ≠ (Value.slice (some ⟨g, 0, none⟩) n n).ownBlock) D dn dc Ad m k x ∧ OwnT (W9.putObj E (.deferred none)) (fun b => Since w (W9.putObj E (.deferred none)) b ∧ some b ≠ (Value.slice (some ⟨g, 0, none⟩) n n).ownBlock) w.heap.size (.slice (some ⟨g, 0, none⟩) n n) post ∧ Below w.heap.size w (W9.putObj E (.deferred none)) := by
  intro W9
  obtain ⟨hz, hF, hFg⟩ := hI.pos
  have hsz : W.heap.size = W9.heap.size := by simp [W9]
  have hne : ∀ b, But W (OvR z F g) b → ¬ b < z + 4 := fun b h e => h.2 (.inl e)
  have k9 : W9.heap[E]? = some (.deferred (some [])) := (((keeps_set5 W E (z + 1) _ _ _ _ _).trans ((KeepsOthers.setCell _ _ _).from E)).trans ((KeepsOthers.setCell _ _ _).from E)).same E _ (Nat.le_refl _) hK rfl
  have h5 := below_set5 hI.fr (show w.heap.size ≤ z + 1 by omega) (.int .i64 x.id.1) (.int .i64 x.id.2) (.slice D dn dc) (strV x.txt) (.slice Ad m k)
  have g9 : Below w.heap.size w W9 := (h5.setCell (p := ⟨z + 1 + 1, 0, none⟩) (show w.heap.size ≤ z + 1 + 1 by omega) _).setCell (p := ⟨z + 1 + 1 + 1, 0, none⟩) (show w.heap.size ≤ z + 1 + 1 + 1 by omega) _
  obtain ⟨p1, p2, p3, p4, p5⟩ := over_put hE k9 g9
  have hrow := hI.row
  rw [List.replicate_zero, List.nil_append] at hrow
  have up : ∀ b, But W (OvR z F g) b → Since w (W9.putObj E (.deferred none)) b ∧ some b ≠ (Value.slice (some ⟨g, 0, none⟩) n n).ownBlock := fun b h => ⟨⟨by have := hne b h; omega, by have := h.1; omega⟩, fun e => h.2 (.inr (.inr (.inl (by injection e))))⟩
  have hv : ∀ b, b < z + 4 → some b ≠ (Value.slice (some ⟨g, 0, none⟩) n n).ownBlock := fun b hb e => by injection e with e; have e : b = g := e; omega
  refine ⟨k9, p2 _ _ _ ?_, p2 _ _ _ ?_, p2 _ _ _ ?_, (p4 _ _ _ _ _ _ _ _ ?_).mono up, (p3 _ _ _ _ ?_).mono up, p1⟩
  · exact ((blk5 hI.r0 _ _ _ _ _).set_ne (by omega) 0 _).set_ne (by omega) 0 _
  · exact ((blk_set5 hI.r1 (g := z + 1) (by omega) _ _ _ _ _).set 0 (.slice (some ⟨g, 0, none⟩) n n)).set_ne (by omega) 0 _
  · exact ((blk_set5 hI.r2 (g := z + 1) (by omega) _ _ _ _ _).set_ne (by omega) 0 _).set 0 (.bool true)
  · exact ((hI.ng.to_ ((alike_set5 W (z + 1) _ _ _ _ _).mono fun b h e => hne b h (by omega))).to_ ((alike_set _ _ _ _).mono fun b h e => hne b h (by omega))).to_ ((alike_set _ _ _ _).mono fun b h e => hne b h (by omega))
  · exact ((hrow.set5 (hv _ (by omega)) (fun h => hne _ h (by omega)) _ _ _ _ _).set (hv _ (by omega)) (fun h => hne _ h (by omega)) 0 _).set (hv _ (by omega)) (fun h => hne _ h (by omega)) 0 _

end Tg
end Go.Proofs.Ytdnkinajbebkoaa

set_option maxRecDepth 100000
namespace Go.Proofs.Ytdnkinajbebkoaa
open Go.RowKit
set_option linter.unusedVariables false
namespace Pn
open Tx Df Sq Hk Tr Pr Fl

def exA : Ch := ⟨0, [97], [], ⟨0, [], []⟩⟩
def exN : Nm := ⟨(0, 1), [], [], [exA]⟩
/-- One change in a block of its own is read as a list. -/
theorem rdP_lone {W : World} {S : Nat → Prop} {b : Nat} {A B : Option Addr} {n c m d : Nat} {x : Ch} (h : Blk W b 54 #[.int .i64 x.k, strV x.nm, strV x.to, .int .i64 x.h.pos, .slice A n c, .slice B m d]) (hp : PG W S A n c B m d x) (hS : S b) : RdP W S (some ⟨b, 0, none⟩) [x] :=
  .inr ⟨_, rfl, hS, fun k y hy => by
    cases k with
    | zero =>
      injection hy with hy
      subst hy
      have e : (⟨b, 0, none⟩ : Addr).add (0 * 6) = ⟨b, 0, none⟩ := rfl
      exact ⟨by rw [e]; exact h.cell 0 rfl, by rw [e]; exact h.cell 1 rfl, by rw [e]; exact h.cell 2 rfl, by rw [e]; exact h.cell 3 rfl, A, n, c, B, m, d, by rw [e]; exact h.cell 4 rfl, by rw [e]; exact h.cell 5 rfl, hp⟩
    | succ k => simp at hy⟩
/-- One patch in a block of its own is read as a list. -/
theorem rdN_lone {W : World} {N b : Nat} {D A : Option Addr} {dn dc n c : Nat} {x : Nm} (h : Blk W b 45 #[.int .i64 x.id.1, .int .i64 x.id.2, .slice D dn dc, strV x.txt, .slice A n c]) (hp : NV W N D dn dc A n c x) (hb : b < N) : RdN W N (some ⟨b, 0, none⟩) [x] :=
  .inr ⟨_, rfl, hb, fun k y hy => by
    cases k with
    | zero =>
      injection hy with hy
      subst hy
      have e : (⟨b, 0, none⟩ : Addr).add (0 * 5) = ⟨b, 0, none⟩ := rfl
      exact ⟨by rw [e]; exact h.cell 0 rfl, by rw [e]; exact h.cell 1 rfl, by rw [e]; exact h.cell 3 rfl, D, dn, dc, A, n, c, by rw [e]; exact h.cell 2 rfl, by rw [e]; exact h.cell 4 rfl, hp⟩
    | succ k => simp at hy⟩
theorem pg_ex (W : World) (S : Nat → Prop) : PG W S none 0 0 none 0 0 exA :=
  ⟨rfl, rfl, Nat.le_refl _, Nat.le_refl _, by decide, by decide, .inl rfl, .inl rfl, by unfold I64; decide, by unfold I64; decide, by decide, by decide, (fun x hx => by cases hx), (fun x hx => by cases hx)⟩
theorem nv_ex {W : World} {N b : Nat} (h : RdP W (· < N) (some ⟨b, 0, none⟩) [exA]) : NV W N none 0 0 (some ⟨b, 0, none⟩) 1 1 exN :=
  ⟨rfl, Nat.le_refl _, by decide, .inl rfl, by decide, rfl, Nat.le_refl _, by decide, h⟩

end Pn
end Go.Proofs.Ytdnkinajbebkoaa
