/-
  What the program's own Turn of layer 8 returns (walk).
-/
import Derived.Test.YtjhjmfodpnipiaaGR
import Derived.Test.YtjhjmfodpnipiaaGH
import Derived.Test.YtjhjmfodpnipiaaGQ
import Derived.Deep.RegionHeld3
import Derived.Deep.Cut
set_option maxRecDepth 100000
namespace Go.Proofs.Ytjhjmfodpnipiaa
open Go.RowKit
set_option linter.unusedVariables false
set_option linter.unusedSimpArgs false
namespace Pr
open Tx Df Sq Hk Tr

theorem ownP (A : Option Addr) (c n B : Nat) (ls : List (List UInt8)) (w : World) (hn : ls.length = n) (hln : n ≤ 1000000) (hR : RdS w B A ls) :
    Calls Try.prog 73 #[.slice A n c] w (OwnEnd w n (ls.map strV)) := by
  obtain ⟨j0, hj, hy0, hy1, hy2⟩ := info_parts info_str
  have HN := Lib.hid hn; clear hn
  go_enter Try.func73, Try.ntmps73
  go_wp2_with (at_builtin; refine wpList_nil' rfl (.const (.slice none 0 0)) (.tmp 3) 33 rfl 9 j0 (.string ⟨#[]⟩) 16 Try.underlying33 hj hy0 hy1 hy2 rfl rfl B A n c (ls.map strV) rfl (by rw [List.length_map]; exact HN.out) hR (strs_one _) (by unfold maxLen; omega) (by omega) ?_; intro A' c' w' hA hg)
  go_ret
  exact ⟨A', c', rfl, hA, hg⟩

section
variable {w W X Y : World} {base n T b : Nat} {A : Option Addr} {k : Nat} {xs : List Value}
theorem belD0 (W : World) : Below W.heap.size W W.drew := below_drewN (Below.refl _ _) 1
theorem belD1 (W : World) (o : Obj) : Below W.heap.size W (W.alloc o).drew := below_drewN ((Below.refl _ _).alloc (Nat.le_refl _) o) 1
theorem bel_gr (h : Below W.heap.size W X) (hg : X.grownBy Y none) : Below W.heap.size W Y := h.trans ((below_gr hg).mono h.size)
theorem bel_al (h : Below W.heap.size W X) (o : Obj) : Below W.heap.size W (X.alloc o) := h.alloc h.size o
theorem bel_set6 (h : Below b w X) (hT : b ≤ T) (v0 v1 v2 v3 v4 v5 : Value) : Below b w ((((((World.setCell X ⟨T, 0, none⟩ v0).setCell ⟨T, 1, none⟩ v1).setCell ⟨T, 2, none⟩ v2).setCell ⟨T, 3, none⟩ v3).setCell ⟨T, 4, none⟩ v4).setCell ⟨T, 5, none⟩ v5) :=
  (((((h.setCell (p := ⟨T, 0, none⟩) hT v0).setCell (p := ⟨T, 1, none⟩) hT v1).setCell (p := ⟨T, 2, none⟩) hT v2).setCell (p := ⟨T, 3, none⟩) hT v3).setCell (p := ⟨T, 4, none⟩) hT v4).setCell (p := ⟨T, 5, none⟩) hT v5
/-- A row of strings, and a change's variable that is set whole. -/
theorem own_set6 {x0 x1 x2 x3 x4 x5 : Value} (h : X.ownsRow base 9 1 (.slice A n k) n xs) (hb : Blk X T 39 #[x0, x1, x2, x3, x4, x5]) (v0 v1 v2 v3 v4 v5 : Value) :
    ((((((World.setCell X ⟨T, 0, none⟩ v0).setCell ⟨T, 1, none⟩ v1).setCell ⟨T, 2, none⟩ v2).setCell ⟨T, 3, none⟩ v3).setCell ⟨T, 4, none⟩ v4).setCell ⟨T, 5, none⟩ v5).ownsRow base 9 1 (.slice A n k) n xs :=
  own_setT (own_setT (own_setT (own_setT (own_setT (own_setT h hb (by decide) 0 v0) (hb.set 0 v0) (by decide) 1 v1) ((hb.set 0 v0).set 1 v1) (by decide) 2 v2) (((hb.set 0 v0).set 1 v1).set 2 v2) (by decide) 3 v3) ((((hb.set 0 v0).set 1 v1).set 2 v2).set 3 v3) (by decide) 4 v4) (((((hb.set 0 v0).set 1 v1).set 2 v2).set 3 v3).set 4 v4) (by decide) 5 v5
end

/-- What lies there when the change is made anew. -/
structure TMid (W : World) (T : Nat) (k : Int) (nm to : List UInt8) (q : Int) (D : Option Addr) (n kd : Nat) (D' : Option Addr) (n' kd' : Nat) (ls ls' : List (List UInt8)) (X : World) : Prop where
  b : Blk X T 39 #[.int .i64 k, strV nm, strV to, .int .i64 q, .slice D n kd, .slice D' n' kd']
  o : X.ownsRow W.heap.size 9 1 (.slice D n kd) n (ls.map strV)
  o' : X.ownsRow W.heap.size 9 1 (.slice D' n' kd') n' (ls'.map strV)
  h : Below W.heap.size W X
  l : W.heap.size ≤ T

theorem tmid_a {W X : World} {k : Int} {nm to : List UInt8} {q : Int} {D : Option Addr} {n kd : Nat} {D' : Option Addr} {n' kd' : Nat} {ls ls' : List (List UInt8)} (h : Below W.heap.size W X) (o : X.ownsRow W.heap.size 9 1 (.slice D n kd) n (ls.map strV)) (o' : X.ownsRow W.heap.size 9 1 (.slice D' n' kd') n' (ls'.map strV)) :
    TMid W X.heap.size k nm to q D n kd D' n' kd' ls ls' (X.alloc (.cells #[.int .i64 k, strV nm, strV to, .int .i64 q, .slice D n kd, .slice D' n' kd'] 39)) :=
  ⟨Blk.new _ _ _, own_gr o (World.grownBy_alloc X _ none), own_gr o' (World.grownBy_alloc X _ none), bel_al h _, h.size⟩
theorem tmid_s {W X : World} {T : Nat} {x0 x1 x2 x3 x4 x5 : Value} {k : Int} {nm to : List UInt8} {q : Int} {D : Option Addr} {n kd : Nat} {D' : Option Addr} {n' kd' : Nat} {ls ls' : List (List UInt8)} (h : Below W.heap.size W X) (hb : Blk X T 39 #[x0, x1, x2, x3, x4, x5]) (hT : W.heap.size ≤ T) (o : X.ownsRow W.heap.size 9 1 (.slice D n kd) n (ls.map strV)) (o' : X.ownsRow W.heap.size 9 1 (.slice D' n' kd') n' (ls'.map strV)) :
    TMid W T k nm to q D n kd D' n' kd' ls ls' ((((((World.setCell X ⟨T, 0, none⟩ (.int .i64 k)).setCell ⟨T, 1, none⟩ (strV nm)).setCell ⟨T, 2, none⟩ (strV to)).setCell ⟨T, 3, none⟩ (.int .i64 q)).setCell ⟨T, 4, none⟩ (.slice D n kd)).setCell ⟨T, 5, none⟩ (.slice D' n' kd')) :=
  ⟨blk6 hb _ _ _ _ _ _, own_set6 o hb _ _ _ _ _ _, own_set6 o' hb _ _ _ _ _ _, bel_set6 h hT _ _ _ _ _ _, hT⟩

/-- How Turn ends: the same as PTEnd, of lines in memory of their own. -/
def PTEndH (w : World) (q : Ch) (e : Ending) (w' : World) : Prop :=
  ∃ A n c A' n' c', e = .returned (prV q.k q.nm q.to q.h.pos A n c A' n' c') ∧ PV w' w'.heap.size A n c A' n' c' q ∧ q.h.old.length = n ∧ q.h.new.length = n' ∧ (Hi w.heap.size A ∧ Hi w.heap.size A') ∧ Below w.heap.size w w'
theorem PTEndH.end_ {w w' : World} {q : Ch} {e : Ending} (h : PTEndH w q e w') : PTEnd w q e w' := by
  obtain ⟨A, n, c, A', n', c', h1, h2, h3, h4, _, h5⟩ := h
  exact ⟨A, n, c, A', n', c', h1, h2, h3, h4, h5⟩
theorem own_set6' {X : World} {base n b k : Nat} {A : Option Addr} {xs : List Value} (h : X.ownsRow base 9 1 (.slice A n k) n xs) (hb : b < base) (v0 v1 v2 v3 v4 v5 : Value) :
    ((((((World.setCell X ⟨b, 0, none⟩ v0).setCell ⟨b, 1, none⟩ v1).setCell ⟨b, 2, none⟩ v2).setCell ⟨b, 3, none⟩ v3).setCell ⟨b, 4, none⟩ v4).setCell ⟨b, 5, none⟩ v5).ownsRow base 9 1 (.slice A n k) n xs :=
  own_set (own_set (own_set (own_set (own_set (own_set h hb 0 v0) hb 1 v1) hb 2 v2) hb 3 v3) hb 4 v4) hb 5 v5

/-- How Turn ends: the lines lie in rows of one's own. -/
theorem turn_fin {w X : World} {base : Nat} {p : Ch} {E : Option Addr} {m ke : Nat} {E' : Option Addr} {m' ke' : Nat} (o : X.ownsRow base 9 1 (.slice E m ke) m (p.h.old.map strV)) (o' : X.ownsRow base 9 1 (.slice E' m' ke') m' (p.h.new.map strV))
    (hl : p.h.old.length = m) (hl' : p.h.new.length = m') (hm : m ≤ maxLen) (hm' : m' ≤ maxLen) (hp : I64 p.h.pos) (hk : I64 p.k) (hn : p.nm.length ≤ maxLen) (ht : p.to.length ≤ maxLen) (hs : ∀ x ∈ p.h.old, x.length ≤ maxLen) (hs' : ∀ x ∈ p.h.new, x.length ≤ maxLen) (hb : Below w.heap.size w X) (hbase : w.heap.size ≤ base) :
    PTEndH w p (.returned (prV p.k p.nm p.to p.h.pos E m ke E' m' ke')) X := by
  obtain ⟨_, _, e1, hk1, r1⟩ := rd_of_own o
  obtain ⟨_, _, e2, hk2, r2⟩ := rd_of_own o'
  cases e1; cases e2
  exact ⟨E, m, ke, E', m', ke', rfl, ⟨⟨hl, hl', hk1, hk2, hm, hm', r1, r2, hp⟩, hk, hn, ht, hs, hs'⟩, hl, hl', ⟨(hi_own o).mono hbase, (hi_own o').mono hbase⟩, hb⟩


set_option maxRecDepth 100000 in
set_option maxHeartbeats 4000000 in
theorem TurnPH (A : Option Addr) (n c : Nat) (A' : Option Addr) (n' c' : Nat) (p : Ch) (w : World) (hn : n ≤ 1000) (hn' : n' ≤ 1000) (hv : PV w w.heap.size A n c A' n' c' p) :
    Calls Try.prog 53 #[prV p.k p.nm p.to p.h.pos A n c A' n' c'] w (PTEndH w (turnP p)) := by
  have HV0 := Lib.hid hv
  obtain ⟨k, nm, to, h⟩ := p
  dsimp only at HV0 hv ⊢
  obtain ⟨q, hq⟩ : ∃ q, h.pos = q := ⟨_, rfl⟩
  rw [hq]
  have HQ := Lib.hid hq; clear hq
  go_enter Try.func53, Try.ntmps53
  go_upto_region 1 with fail
  have b1 := (Blk.new w 39 #[.int .i64 k, strV nm, strV to, .int .i64 q, .slice A n c, .slice A' n' c']).alloc (.cells #[.int .i64 0, .string ⟨#[]⟩, .string ⟨#[]⟩, .int .i64 0, .slice none 0 0, .slice none 0 0] 39)
  have b2 := Blk.new (w.alloc (.cells #[.int .i64 k, strV nm, strV to, .int .i64 q, .slice A n c, .slice A' n' c'] 39)) 39 #[.int .i64 0, .string ⟨#[]⟩, .string ⟨#[]⟩, .int .i64 0, .slice none 0 0, .slice none 0 0]
  have hw := two_box w (.cells #[.int .i64 k, strV nm, strV to, .int .i64 q, .slice A n c, .slice A' n' c'] 39) (.cells #[.int .i64 0, .string ⟨#[]⟩, .string ⟨#[]⟩, .int .i64 0, .slice none 0 0, .slice none 0 0] 39)
  simp only [World.size_alloc] at b2
  generalize (w.alloc (.cells #[.int .i64 k, strV nm, strV to, .int .i64 q, .slice A n c, .slice A' n' c'] 39)).alloc (.cells #[.int .i64 0, .string ⟨#[]⟩, .string ⟨#[]⟩, .int .i64 0, .slice none 0 0, .slice none 0 0] 39) = W at *
  obtain ⟨g, hgs⟩ : ∃ g, w.heap.size = g := ⟨_, rfl⟩
  rw [hgs] at hv b1 b2 hw ⊢
  have HGS := Lib.hid hgs; clear hgs
  have hss : ∀ X, Below W.heap.size W X → Below W.heap.size W X ∧ X.cell? ⟨g, 0, none⟩ = some (.int .i64 k) ∧ X.cell? ⟨g, 1, none⟩ = some (strV nm) ∧ X.cell? ⟨g, 2, none⟩ = some (strV to) ∧ X.cell? ⟨g, 3, none⟩ = some (.int .i64 q) ∧ X.cell? ⟨g, 4, none⟩ = some (.slice A n c) ∧ X.cell? ⟨g, 5, none⟩ = some (.slice A' n' c') := fun X hb => by
    have x := b1.below hb b1.lt
    exact ⟨hb, x.cell 0 rfl, x.cell 1 rfl, x.cell 2 rfl, x.cell 3 rfl, x.cell 4 rfl, x.cell 5 rfl⟩
  have hgW : g + 1 < W.heap.size := b2.lt
  have v1 := (hv.below hw).up (show g ≤ W.heap.size from by omega)
  have HS0 := Lib.hid (hss W (Below.refl _ _))
  have HKD := Lib.hid (hss W.drew (belD0 W))
  have HSS := Lib.hid hss
  have HO1 : Hid (∀ X, Below W.heap.size W X → Calls Try.prog 73 #[.slice A n c] X (fun e u => ∃ D k, e = .returned (.slice D n k) ∧ u.ownsRow X.heap.size 9 1 (.slice D n k) n (h.old.map strV) ∧ X.grownBy u none)) := Lib.hid (fun X hb => ownP A c n W.heap.size h.old X v1.h.l (by omega) (Rd.below v1.h.r hb))
  have HO2 : Hid (∀ X, Below W.heap.size W X → Calls Try.prog 73 #[.slice A' n' c'] X (fun e u => ∃ D k, e = .returned (.slice D n' k) ∧ u.ownsRow X.heap.size 9 1 (.slice D n' k) n' (h.new.map strV) ∧ X.grownBy u none)) := Lib.hid (fun X hb => ownP A' c' n' W.heap.size h.new X v1.h.l' (by omega) (Rd.below v1.h.r' hb))
  have HHW := Lib.hid hw; have HGW := Lib.hid hgW; have B1 := Lib.hid b1; have B2 := Lib.hid b2
  clear hss v1 hw hgW hv b1 b2
  go_cut [3] from 4 (fun s3 wx => ∃ (T : Nat) (D : Option Addr) (kd : Nat) (D' : Option Addr) (kd' : Nat), s3 = .pointer (some ⟨T, 0, none⟩) ∧ TMid W T k nm to q D n kd D' n' kd' h.old h.new wx)
  case first =>
    obtain ⟨_, x0, x1, x2, x3, x4, x5⟩ := HS0.out
    go_region_held3 (fun X => Below W.heap.size W X ∧ X.cell? ⟨g, 0, none⟩ = some (.int .i64 k) ∧ X.cell? ⟨g, 1, none⟩ = some (strV nm) ∧ X.cell? ⟨g, 2, none⟩ = some (strV to) ∧ X.cell? ⟨g, 3, none⟩ = some (.int .i64 q) ∧ X.cell? ⟨g, 4, none⟩ = some (.slice A n c) ∧ X.cell? ⟨g, 5, none⟩ = some (.slice A' n' c'))
      (first
        | (with_reducible exact HKD.out)
        | (with_reducible exact HSS.out _ (belD1 W _))
        | (with_reducible exact HSS.out _ HU1.out)
        | (with_reducible exact HSS.out _ (bel_al HU1.out _))
        | (with_reducible exact HSS.out _ HU2.out)
        | (with_reducible exact HSS.out _ (bel_al HU2.out _))
        | (with_reducible exact HSS.out _ (bel_set6 HU2.out tpl _ _ _ _ _ _)))
      (first
        | (go_at_call 73; (with_reducible refine (HO1.out W.drew (belD0 W)).mono ?_); rintro e u1 ⟨D1, k1, rfl, hr, hg⟩; have hbc := bel_gr (belD0 W) hg; have HU1 := Lib.hid hbc; have HR1 := Lib.hid (own_mono hr (belD0 W).size); clear hr hg hbc)
        | (go_at_call 73; (with_reducible refine (HO1.out (W.alloc (.cells #[.int .i64 0, .string ⟨#[]⟩, .string ⟨#[]⟩, .int .i64 0, .slice none 0 0, .slice none 0 0] 39)).drew (belD1 W (.cells #[.int .i64 0, .string ⟨#[]⟩, .string ⟨#[]⟩, .int .i64 0, .slice none 0 0, .slice none 0 0] 39))).mono ?_); rintro e u1 ⟨D1, k1, rfl, hr, hg⟩; have hbc := bel_gr (belD1 W (.cells #[.int .i64 0, .string ⟨#[]⟩, .string ⟨#[]⟩, .int .i64 0, .slice none 0 0, .slice none 0 0] 39)) hg; have HU1 := Lib.hid hbc; have HR1 := Lib.hid (own_mono hr (belD1 W (.cells #[.int .i64 0, .string ⟨#[]⟩, .string ⟨#[]⟩, .int .i64 0, .slice none 0 0, .slice none 0 0] 39)).size); have tp := ((Blk.new W 39 #[.int .i64 0, .string ⟨#[]⟩, .string ⟨#[]⟩, .int .i64 0, .slice none 0 0, .slice none 0 0]).drewN 1).gr hg (nn _); have tpl := (Nat.le_refl W.heap.size); clear hr hg hbc)
        | (go_at_call 73; (with_reducible refine (HO2.out u1 HU1.out).mono ?_); rintro e u2 ⟨D2, k2, rfl, hr, hg⟩; have hbc := bel_gr HU1.out hg; have HU2 := Lib.hid hbc; have HR2 := Lib.hid (own_mono hr HU1.out.size); replace HR1 := Lib.hid (own_gr HR1.out hg); (try (replace tp := tp.gr hg (nn _); have p0 := tp.cell 0 (u := .int .i64 0) rfl; have p1 := tp.cell 1 (u := .string ⟨#[]⟩) rfl; have p2 := tp.cell 2 (u := .string ⟨#[]⟩) rfl; have p3 := tp.cell 3 (u := .int .i64 0) rfl; have p4 := tp.cell 4 (u := .slice none 0 0) rfl; have p5 := tp.cell 5 (u := .slice none 0 0) rfl; have pf0 := tp.frozen 0; have pf1 := tp.frozen 1; have pf2 := tp.frozen 2; have pf3 := tp.frozen 3; have pf4 := tp.frozen 4; have pf5 := tp.frozen 5; have pl := tp.lt)); clear hr hg hbc)
        | (go_at_call 73; (with_reducible refine (HO2.out (u1.alloc (.cells #[.int .i64 0, .string ⟨#[]⟩, .string ⟨#[]⟩, .int .i64 0, .slice none 0 0, .slice none 0 0] 39)) (bel_al HU1.out (.cells #[.int .i64 0, .string ⟨#[]⟩, .string ⟨#[]⟩, .int .i64 0, .slice none 0 0, .slice none 0 0] 39))).mono ?_); rintro e u2 ⟨D2, k2, rfl, hr, hg⟩; have hbc := bel_gr (bel_al HU1.out (.cells #[.int .i64 0, .string ⟨#[]⟩, .string ⟨#[]⟩, .int .i64 0, .slice none 0 0, .slice none 0 0] 39)) hg; have HU2 := Lib.hid hbc; have HR2 := Lib.hid (own_mono hr (bel_al HU1.out (.cells #[.int .i64 0, .string ⟨#[]⟩, .string ⟨#[]⟩, .int .i64 0, .slice none 0 0, .slice none 0 0] 39)).size); replace HR1 := Lib.hid (own_gr (own_gr HR1.out (World.grownBy_alloc u1 (.cells #[.int .i64 0, .string ⟨#[]⟩, .string ⟨#[]⟩, .int .i64 0, .slice none 0 0, .slice none 0 0] 39) none)) hg); have tp := (Blk.new u1 39 #[.int .i64 0, .string ⟨#[]⟩, .string ⟨#[]⟩, .int .i64 0, .slice none 0 0, .slice none 0 0]).gr hg (nn _); have tpl := HU1.out.size; have p0 := tp.cell 0 (u := .int .i64 0) rfl; have p1 := tp.cell 1 (u := .string ⟨#[]⟩) rfl; have p2 := tp.cell 2 (u := .string ⟨#[]⟩) rfl; have p3 := tp.cell 3 (u := .int .i64 0) rfl; have p4 := tp.cell 4 (u := .slice none 0 0) rfl; have p5 := tp.cell 5 (u := .slice none 0 0) rfl; have pf0 := tp.frozen 0; have pf1 := tp.frozen 1; have pf2 := tp.frozen 2; have pf3 := tp.frozen 3; have pf4 := tp.frozen 4; have pf5 := tp.frozen 5; have pl := tp.lt; clear hr hg hbc))
    all_goals (try go_wp2_with fail)
    all_goals go_meet
    all_goals first
      | (with_reducible exact ⟨_, D1, k1, D2, k2, rfl, tmid_s HU2.out tp tpl HR1.out HR2.out⟩)
      | (with_reducible exact ⟨_, D1, k1, D2, k2, rfl, tmid_a HU2.out HR1.out HR2.out⟩)
  case rest =>
  obtain ⟨T, D, kd, D', kd', rfl, hT⟩ := hcut
  obtain ⟨bt, o, o', hbW, hTl⟩ := hT
  clear HS0 HKD HSS HO1 HO2
  have bp := B1.out.below hbW B1.out.lt
  have bo := B2.out.below hbW B2.out.lt
  have hbx : Below g w wc := HHW.out.trans (hbW.mono (by have := HGW.out; omega))
  have hgT : g + 1 ≠ T := by have := HGW.out; omega
  have hgT' : g ≠ T := by have := HGW.out; omega
  have hT0 : g ≤ T := by have := HGW.out; omega
  have HBT := Lib.hid bt; have HO := Lib.hid o; have HO' := Lib.hid o'; have HBO := Lib.hid bo; have HBX := Lib.hid hbx; have HBP := Lib.hid bp; have HBW := Lib.hid hbW; have HT1 := Lib.hid hgT; have HT2 := Lib.hid hgT'; have HTG := Lib.hid hT0; have HTL := Lib.hid hTl
  clear bt o o' bo hbx bp hbW hgT hgT' hT0 hTl B1 B2
  by_cases h0 : k = 0
  · subst h0
    have x0 : wc.cell? ⟨g, 0, none⟩ = some (.int .i64 0) := HBP.out.cell 0 rfl
    have x1 : wc.cell? ⟨g, 1, none⟩ = some (strV nm) := HBP.out.cell 1 rfl
    have x2 : wc.cell? ⟨g, 2, none⟩ = some (strV to) := HBP.out.cell 2 rfl
    have x3 : wc.cell? ⟨g, 3, none⟩ = some (.int .i64 q) := HBP.out.cell 3 rfl
    have x4 : wc.cell? ⟨g, 4, none⟩ = some (.slice A n c) := HBP.out.cell 4 rfl
    have x5 : wc.cell? ⟨g, 5, none⟩ = some (.slice A' n' c') := HBP.out.cell 5 rfl
    have t0 : wc.cell? ⟨T, 0, none⟩ = some (.int .i64 0) := HBT.out.cell 0 rfl
    have t1 : wc.cell? ⟨T, 1, none⟩ = some (strV nm) := HBT.out.cell 1 rfl
    have t2 : wc.cell? ⟨T, 2, none⟩ = some (strV to) := HBT.out.cell 2 rfl
    have t3 : wc.cell? ⟨T, 3, none⟩ = some (.int .i64 q) := HBT.out.cell 3 rfl
    have t4 : wc.cell? ⟨T, 4, none⟩ = some (.slice D n kd) := HBT.out.cell 4 rfl
    have t5 : wc.cell? ⟨T, 5, none⟩ = some (.slice D' n' kd') := HBT.out.cell 5 rfl
    have f0 : wc.frozen? ⟨T, 0, none⟩ = false := HBT.out.frozen 0
    have bt0 := HBT.out; have bo0 := HBO.out; have o0 := HO.out; have p0 := HO'.out; have h0 := HBX.out
    have bo1 := bo0.set_ne HT1.out 0 (.int .i64 1)
    have o1 := own_setT o0 bt0 (by decide) 0 (.int .i64 1)
    have p1 := own_setT p0 bt0 (by decide) 0 (.int .i64 1)
    have h1 := h0.setCell (p := ⟨T, 0, none⟩) HTG.out (.int .i64 1)
    have bt1 : Blk _ T 39 #[.int .i64 1, strV nm, strV to, .int .i64 q, .slice D n kd, .slice D' n' kd'] := bt0.set 0 (.int .i64 1)
    have BT := Lib.hid bt1; have BO := Lib.hid bo1; have O := Lib.hid o1; have O' := Lib.hid p1; have HX := Lib.hid h1
    clear bt0 bo0 o0 p0 h0 bt1 bo1 o1 p1 h1
    go_upto_region 10 with fail
    have bt := BT.out; have bo := BO.out; have o := O.out; have o' := O'.out; have hbx := HX.out
    clear x0 t0 x1 t1 x2 t2 x3 t3 x4 t4 x5 t5 f0 BT BO O O' HX HBT HBO HO HO' HBX HBP
    generalize (World.setCell wc ⟨T, 0, none⟩ (.int .i64 1)) = X at *
    have t0 : X.cell? ⟨T, 0, none⟩ = some (.int .i64 1) := bt.cell 0 rfl
    have t1 : X.cell? ⟨T, 1, none⟩ = some (strV nm) := bt.cell 1 rfl
    have t2 : X.cell? ⟨T, 2, none⟩ = some (strV to) := bt.cell 2 rfl
    have t3 : X.cell? ⟨T, 3, none⟩ = some (.int .i64 q) := bt.cell 3 rfl
    have t4 : X.cell? ⟨T, 4, none⟩ = some (.slice D n kd) := bt.cell 4 rfl
    have t5 : X.cell? ⟨T, 5, none⟩ = some (.slice D' n' kd') := bt.cell 5 rfl
    have z0 : X.cell? ⟨g + 1, 0, none⟩ = some (.int .i64 0) := bo.cell 0 rfl
    have z1 : X.cell? ⟨g + 1, 1, none⟩ = some (.string ⟨#[]⟩) := bo.cell 1 rfl
    have z2 : X.cell? ⟨g + 1, 2, none⟩ = some (.string ⟨#[]⟩) := bo.cell 2 rfl
    have z3 : X.cell? ⟨g + 1, 3, none⟩ = some (.int .i64 0) := bo.cell 3 rfl
    have z4 : X.cell? ⟨g + 1, 4, none⟩ = some (.slice none 0 0) := bo.cell 4 rfl
    have z5 : X.cell? ⟨g + 1, 5, none⟩ = some (.slice none 0 0) := bo.cell 5 rfl
    have f0 : X.frozen? ⟨g + 1, 0, none⟩ = false := bo.frozen 0
    have f1 : X.frozen? ⟨g + 1, 1, none⟩ = false := bo.frozen 1
    have f2 : X.frozen? ⟨g + 1, 2, none⟩ = false := bo.frozen 2
    have f3 : X.frozen? ⟨g + 1, 3, none⟩ = false := bo.frozen 3
    have f4 : X.frozen? ⟨g + 1, 4, none⟩ = false := bo.frozen 4
    have f5 : X.frozen? ⟨g + 1, 5, none⟩ = false := bo.frozen 5
    have b5 := blk6 bo (.int .i64 1) (strV nm) (strV to) (.int .i64 q) (.slice D n kd) (.slice D' n' kd')
    have hb9 := bel_set6 hbx (Nat.le_succ g) (.int .i64 1) (strV nm) (strV to) (.int .i64 q) (.slice D n kd) (.slice D' n' kd')
    have o9 := own_set6' o HGW.out (.int .i64 1) (strV nm) (strV to) (.int .i64 q) (.slice D n kd) (.slice D' n' kd')
    have o9' := own_set6' o' HGW.out (.int .i64 1) (strV nm) (strV to) (.int .i64 q) (.slice D n kd) (.slice D' n' kd')
    have B5 := Lib.hid b5; have HB9 := Lib.hid hb9; have O9 := Lib.hid o9; have O9' := Lib.hid o9'
    clear b5 hb9 o9 o9' bo bt hbx
    go_wp2
    have b5 := B5.out; have hb9 := HB9.out; have o9 := O9.out; have o9' := O9'.out
    clear t0 z0 f0 t1 z1 f1 t2 z2 f2 t3 z3 f3 t4 z4 f4 t5 z5 f5 B5 HB9 O9 O9'
    generalize (World.setCell (World.setCell (World.setCell (World.setCell (World.setCell (World.setCell X ⟨g + 1, 0, none⟩ (.int .i64 1)) ⟨g + 1, 1, none⟩ (strV nm)) ⟨g + 1, 2, none⟩ (strV to)) ⟨g + 1, 3, none⟩ (.int .i64 q)) ⟨g + 1, 4, none⟩ (.slice D n kd)) ⟨g + 1, 5, none⟩ (.slice D' n' kd')) = X9 at *
    have q0 : X9.cell? ⟨g + 1, 0, none⟩ = some (.int .i64 1) := b5.cell 0 rfl
    have q1 : X9.cell? ⟨g + 1, 1, none⟩ = some (strV nm) := b5.cell 1 rfl
    have q2 : X9.cell? ⟨g + 1, 2, none⟩ = some (strV to) := b5.cell 2 rfl
    have q3 : X9.cell? ⟨g + 1, 3, none⟩ = some (.int .i64 q) := b5.cell 3 rfl
    have q4 : X9.cell? ⟨g + 1, 4, none⟩ = some (.slice D n kd) := b5.cell 4 rfl
    have q5 : X9.cell? ⟨g + 1, 5, none⟩ = some (.slice D' n' kd') := b5.cell 5 rfl
    refine bodyPost_ret (v := .agg #[.int .i64 1, strV nm, strV to, .int .i64 q, .slice D n kd, .slice D' n' kd']) (by simp [results, Try.results53, go_sem, q0, q1, q2, q3, q4, q5]) rfl ?_
    have hq : turnP ⟨0, nm, to, h⟩ = ⟨1, nm, to, h⟩ := turnP_0 rfl
    have v := HV0.out
    rw [hq, HGS.out.symm, ← HQ.out] at *
    exact turn_fin (p := ⟨1, nm, to, h⟩) o9 o9' v.h.l v.h.l' v.h.m v.h.m' v.h.p (by unfold I64; dsimp only; omega) v.nm v.to v.s v.s' hb9 (by first | exact HHW.out.size | exact HBX.out.size)
  by_cases h1 : k = 1
  · subst h1
    have x0 : wc.cell? ⟨g, 0, none⟩ = some (.int .i64 1) := HBP.out.cell 0 rfl
    have x1 : wc.cell? ⟨g, 1, none⟩ = some (strV nm) := HBP.out.cell 1 rfl
    have x2 : wc.cell? ⟨g, 2, none⟩ = some (strV to) := HBP.out.cell 2 rfl
    have x3 : wc.cell? ⟨g, 3, none⟩ = some (.int .i64 q) := HBP.out.cell 3 rfl
    have x4 : wc.cell? ⟨g, 4, none⟩ = some (.slice A n c) := HBP.out.cell 4 rfl
    have x5 : wc.cell? ⟨g, 5, none⟩ = some (.slice A' n' c') := HBP.out.cell 5 rfl
    have t0 : wc.cell? ⟨T, 0, none⟩ = some (.int .i64 1) := HBT.out.cell 0 rfl
    have t1 : wc.cell? ⟨T, 1, none⟩ = some (strV nm) := HBT.out.cell 1 rfl
    have t2 : wc.cell? ⟨T, 2, none⟩ = some (strV to) := HBT.out.cell 2 rfl
    have t3 : wc.cell? ⟨T, 3, none⟩ = some (.int .i64 q) := HBT.out.cell 3 rfl
    have t4 : wc.cell? ⟨T, 4, none⟩ = some (.slice D n kd) := HBT.out.cell 4 rfl
    have t5 : wc.cell? ⟨T, 5, none⟩ = some (.slice D' n' kd') := HBT.out.cell 5 rfl
    have f0 : wc.frozen? ⟨T, 0, none⟩ = false := HBT.out.frozen 0
    have bt0 := HBT.out; have bo0 := HBO.out; have o0 := HO.out; have p0 := HO'.out; have h0 := HBX.out
    have bo1 := bo0.set_ne HT1.out 0 (.int .i64 0)
    have o1 := own_setT o0 bt0 (by decide) 0 (.int .i64 0)
    have p1 := own_setT p0 bt0 (by decide) 0 (.int .i64 0)
    have h1 := h0.setCell (p := ⟨T, 0, none⟩) HTG.out (.int .i64 0)
    have bt1 : Blk _ T 39 #[.int .i64 0, strV nm, strV to, .int .i64 q, .slice D n kd, .slice D' n' kd'] := bt0.set 0 (.int .i64 0)
    have BT := Lib.hid bt1; have BO := Lib.hid bo1; have O := Lib.hid o1; have O' := Lib.hid p1; have HX := Lib.hid h1
    clear bt0 bo0 o0 p0 h0 bt1 bo1 o1 p1 h1
    go_upto_region 10 with fail
    have bt := BT.out; have bo := BO.out; have o := O.out; have o' := O'.out; have hbx := HX.out
    clear x0 t0 x1 t1 x2 t2 x3 t3 x4 t4 x5 t5 f0 BT BO O O' HX HBT HBO HO HO' HBX HBP
    generalize (World.setCell wc ⟨T, 0, none⟩ (.int .i64 0)) = X at *
    have t0 : X.cell? ⟨T, 0, none⟩ = some (.int .i64 0) := bt.cell 0 rfl
    have t1 : X.cell? ⟨T, 1, none⟩ = some (strV nm) := bt.cell 1 rfl
    have t2 : X.cell? ⟨T, 2, none⟩ = some (strV to) := bt.cell 2 rfl
    have t3 : X.cell? ⟨T, 3, none⟩ = some (.int .i64 q) := bt.cell 3 rfl
    have t4 : X.cell? ⟨T, 4, none⟩ = some (.slice D n kd) := bt.cell 4 rfl
    have t5 : X.cell? ⟨T, 5, none⟩ = some (.slice D' n' kd') := bt.cell 5 rfl
    have z0 : X.cell? ⟨g + 1, 0, none⟩ = some (.int .i64 0) := bo.cell 0 rfl
    have z1 : X.cell? ⟨g + 1, 1, none⟩ = some (.string ⟨#[]⟩) := bo.cell 1 rfl
    have z2 : X.cell? ⟨g + 1, 2, none⟩ = some (.string ⟨#[]⟩) := bo.cell 2 rfl
    have z3 : X.cell? ⟨g + 1, 3, none⟩ = some (.int .i64 0) := bo.cell 3 rfl
    have z4 : X.cell? ⟨g + 1, 4, none⟩ = some (.slice none 0 0) := bo.cell 4 rfl
    have z5 : X.cell? ⟨g + 1, 5, none⟩ = some (.slice none 0 0) := bo.cell 5 rfl
    have f0 : X.frozen? ⟨g + 1, 0, none⟩ = false := bo.frozen 0
    have f1 : X.frozen? ⟨g + 1, 1, none⟩ = false := bo.frozen 1
    have f2 : X.frozen? ⟨g + 1, 2, none⟩ = false := bo.frozen 2
    have f3 : X.frozen? ⟨g + 1, 3, none⟩ = false := bo.frozen 3
    have f4 : X.frozen? ⟨g + 1, 4, none⟩ = false := bo.frozen 4
    have f5 : X.frozen? ⟨g + 1, 5, none⟩ = false := bo.frozen 5
    have b5 := blk6 bo (.int .i64 0) (strV nm) (strV to) (.int .i64 q) (.slice D n kd) (.slice D' n' kd')
    have hb9 := bel_set6 hbx (Nat.le_succ g) (.int .i64 0) (strV nm) (strV to) (.int .i64 q) (.slice D n kd) (.slice D' n' kd')
    have o9 := own_set6' o HGW.out (.int .i64 0) (strV nm) (strV to) (.int .i64 q) (.slice D n kd) (.slice D' n' kd')
    have o9' := own_set6' o' HGW.out (.int .i64 0) (strV nm) (strV to) (.int .i64 q) (.slice D n kd) (.slice D' n' kd')
    have B5 := Lib.hid b5; have HB9 := Lib.hid hb9; have O9 := Lib.hid o9; have O9' := Lib.hid o9'
    clear b5 hb9 o9 o9' bo bt hbx
    go_wp2
    have b5 := B5.out; have hb9 := HB9.out; have o9 := O9.out; have o9' := O9'.out
    clear t0 z0 f0 t1 z1 f1 t2 z2 f2 t3 z3 f3 t4 z4 f4 t5 z5 f5 B5 HB9 O9 O9'
    generalize (World.setCell (World.setCell (World.setCell (World.setCell (World.setCell (World.setCell X ⟨g + 1, 0, none⟩ (.int .i64 0)) ⟨g + 1, 1, none⟩ (strV nm)) ⟨g + 1, 2, none⟩ (strV to)) ⟨g + 1, 3, none⟩ (.int .i64 q)) ⟨g + 1, 4, none⟩ (.slice D n kd)) ⟨g + 1, 5, none⟩ (.slice D' n' kd')) = X9 at *
    have q0 : X9.cell? ⟨g + 1, 0, none⟩ = some (.int .i64 0) := b5.cell 0 rfl
    have q1 : X9.cell? ⟨g + 1, 1, none⟩ = some (strV nm) := b5.cell 1 rfl
    have q2 : X9.cell? ⟨g + 1, 2, none⟩ = some (strV to) := b5.cell 2 rfl
    have q3 : X9.cell? ⟨g + 1, 3, none⟩ = some (.int .i64 q) := b5.cell 3 rfl
    have q4 : X9.cell? ⟨g + 1, 4, none⟩ = some (.slice D n kd) := b5.cell 4 rfl
    have q5 : X9.cell? ⟨g + 1, 5, none⟩ = some (.slice D' n' kd') := b5.cell 5 rfl
    refine bodyPost_ret (v := .agg #[.int .i64 0, strV nm, strV to, .int .i64 q, .slice D n kd, .slice D' n' kd']) (by simp [results, Try.results53, go_sem, q0, q1, q2, q3, q4, q5]) rfl ?_
    have hq : turnP ⟨1, nm, to, h⟩ = ⟨0, nm, to, h⟩ := turnP_1 rfl
    have v := HV0.out
    rw [hq, HGS.out.symm, ← HQ.out] at *
    exact turn_fin (p := ⟨0, nm, to, h⟩) o9 o9' v.h.l v.h.l' v.h.m v.h.m' v.h.p (by unfold I64; dsimp only; omega) v.nm v.to v.s v.s' hb9 (by first | exact HHW.out.size | exact HBX.out.size)
  by_cases h2 : k = 2
  · subst h2
    have x0 : wc.cell? ⟨g, 0, none⟩ = some (.int .i64 2) := HBP.out.cell 0 rfl
    have x1 : wc.cell? ⟨g, 1, none⟩ = some (strV nm) := HBP.out.cell 1 rfl
    have x2 : wc.cell? ⟨g, 2, none⟩ = some (strV to) := HBP.out.cell 2 rfl
    have x3 : wc.cell? ⟨g, 3, none⟩ = some (.int .i64 q) := HBP.out.cell 3 rfl
    have x4 : wc.cell? ⟨g, 4, none⟩ = some (.slice A n c) := HBP.out.cell 4 rfl
    have x5 : wc.cell? ⟨g, 5, none⟩ = some (.slice A' n' c') := HBP.out.cell 5 rfl
    have t0 : wc.cell? ⟨T, 0, none⟩ = some (.int .i64 2) := HBT.out.cell 0 rfl
    have t1 : wc.cell? ⟨T, 1, none⟩ = some (strV nm) := HBT.out.cell 1 rfl
    have t2 : wc.cell? ⟨T, 2, none⟩ = some (strV to) := HBT.out.cell 2 rfl
    have t3 : wc.cell? ⟨T, 3, none⟩ = some (.int .i64 q) := HBT.out.cell 3 rfl
    have t4 : wc.cell? ⟨T, 4, none⟩ = some (.slice D n kd) := HBT.out.cell 4 rfl
    have t5 : wc.cell? ⟨T, 5, none⟩ = some (.slice D' n' kd') := HBT.out.cell 5 rfl
    have f1 : wc.frozen? ⟨T, 1, none⟩ = false := HBT.out.frozen 1
    have f2 : wc.frozen? ⟨T, 2, none⟩ = false := HBT.out.frozen 2
    have bt0 := HBT.out; have bo0 := HBO.out; have o0 := HO.out; have p0 := HO'.out; have h0 := HBX.out
    have bo1 := bo0.set_ne HT1.out 1 (strV to)
    have o1 := own_setT o0 bt0 (by decide) 1 (strV to)
    have p1 := own_setT p0 bt0 (by decide) 1 (strV to)
    have h1 := h0.setCell (p := ⟨T, 1, none⟩) HTG.out (strV to)
    have bt1 : Blk _ T 39 #[.int .i64 2, strV to, strV to, .int .i64 q, .slice D n kd, .slice D' n' kd'] := bt0.set 1 (strV to)
    have bo2 := bo1.set_ne HT1.out 2 (strV nm)
    have o2 := own_setT o1 bt1 (by decide) 2 (strV nm)
    have p2 := own_setT p1 bt1 (by decide) 2 (strV nm)
    have h2 := h1.setCell (p := ⟨T, 2, none⟩) HTG.out (strV nm)
    have bt2 : Blk _ T 39 #[.int .i64 2, strV to, strV nm, .int .i64 q, .slice D n kd, .slice D' n' kd'] := bt1.set 2 (strV nm)
    have BT := Lib.hid bt2; have BO := Lib.hid bo2; have O := Lib.hid o2; have O' := Lib.hid p2; have HX := Lib.hid h2
    clear bt0 bo0 o0 p0 h0 bt1 bo1 o1 p1 h1 bt2 bo2 o2 p2 h2
    go_upto_region 10 with fail
    have hne1 := HT2.out
    have hne2 : T ≠ g := fun e => hne1 e.symm
    go_region
    clear hne1 hne2
    go_upto_region 10 with fail
    have bt : Blk (World.setCell (World.setCell wc ⟨T, 1, none⟩ (.string ⟨to.toArray⟩)) ⟨T, 2, none⟩ (.string ⟨nm.toArray⟩)).drew T 39 #[.int .i64 2, strV to, strV nm, .int .i64 q, .slice D n kd, .slice D' n' kd'] := BT.out.drewN 1
    have bo : Blk (World.setCell (World.setCell wc ⟨T, 1, none⟩ (.string ⟨to.toArray⟩)) ⟨T, 2, none⟩ (.string ⟨nm.toArray⟩)).drew (g + 1) 39 #[.int .i64 0, .string ⟨#[]⟩, .string ⟨#[]⟩, .int .i64 0, .slice none 0 0, .slice none 0 0] := BO.out.drewN 1
    have o : World.ownsRow (World.setCell (World.setCell wc ⟨T, 1, none⟩ (.string ⟨to.toArray⟩)) ⟨T, 2, none⟩ (.string ⟨nm.toArray⟩)).drew W.heap.size 9 1 (.slice D n kd) n (h.old.map strV) := O.out.drew
    have o' : World.ownsRow (World.setCell (World.setCell wc ⟨T, 1, none⟩ (.string ⟨to.toArray⟩)) ⟨T, 2, none⟩ (.string ⟨nm.toArray⟩)).drew W.heap.size 9 1 (.slice D' n' kd') n' (h.new.map strV) := O'.out.drew
    have hbx : Below g w (World.setCell (World.setCell wc ⟨T, 1, none⟩ (.string ⟨to.toArray⟩)) ⟨T, 2, none⟩ (.string ⟨nm.toArray⟩)).drew := below_drewN HX.out 1
    clear x0 t0 x1 t1 x2 t2 x3 t3 x4 t4 x5 t5 f1 f2 BT BO O O' HX HBT HBO HO HO' HBX HBP
    generalize (World.setCell (World.setCell wc ⟨T, 1, none⟩ (.string ⟨to.toArray⟩)) ⟨T, 2, none⟩ (.string ⟨nm.toArray⟩)).drew = X at *
    have t0 : X.cell? ⟨T, 0, none⟩ = some (.int .i64 2) := bt.cell 0 rfl
    have t1 : X.cell? ⟨T, 1, none⟩ = some (strV to) := bt.cell 1 rfl
    have t2 : X.cell? ⟨T, 2, none⟩ = some (strV nm) := bt.cell 2 rfl
    have t3 : X.cell? ⟨T, 3, none⟩ = some (.int .i64 q) := bt.cell 3 rfl
    have t4 : X.cell? ⟨T, 4, none⟩ = some (.slice D n kd) := bt.cell 4 rfl
    have t5 : X.cell? ⟨T, 5, none⟩ = some (.slice D' n' kd') := bt.cell 5 rfl
    have z0 : X.cell? ⟨g + 1, 0, none⟩ = some (.int .i64 0) := bo.cell 0 rfl
    have z1 : X.cell? ⟨g + 1, 1, none⟩ = some (.string ⟨#[]⟩) := bo.cell 1 rfl
    have z2 : X.cell? ⟨g + 1, 2, none⟩ = some (.string ⟨#[]⟩) := bo.cell 2 rfl
    have z3 : X.cell? ⟨g + 1, 3, none⟩ = some (.int .i64 0) := bo.cell 3 rfl
    have z4 : X.cell? ⟨g + 1, 4, none⟩ = some (.slice none 0 0) := bo.cell 4 rfl
    have z5 : X.cell? ⟨g + 1, 5, none⟩ = some (.slice none 0 0) := bo.cell 5 rfl
    have f0 : X.frozen? ⟨g + 1, 0, none⟩ = false := bo.frozen 0
    have f1 : X.frozen? ⟨g + 1, 1, none⟩ = false := bo.frozen 1
    have f2 : X.frozen? ⟨g + 1, 2, none⟩ = false := bo.frozen 2
    have f3 : X.frozen? ⟨g + 1, 3, none⟩ = false := bo.frozen 3
    have f4 : X.frozen? ⟨g + 1, 4, none⟩ = false := bo.frozen 4
    have f5 : X.frozen? ⟨g + 1, 5, none⟩ = false := bo.frozen 5
    have b5 := blk6 bo (.int .i64 2) (strV to) (strV nm) (.int .i64 q) (.slice D n kd) (.slice D' n' kd')
    have hb9 := bel_set6 hbx (Nat.le_succ g) (.int .i64 2) (strV to) (strV nm) (.int .i64 q) (.slice D n kd) (.slice D' n' kd')
    have o9 := own_set6' o HGW.out (.int .i64 2) (strV to) (strV nm) (.int .i64 q) (.slice D n kd) (.slice D' n' kd')
    have o9' := own_set6' o' HGW.out (.int .i64 2) (strV to) (strV nm) (.int .i64 q) (.slice D n kd) (.slice D' n' kd')
    have B5 := Lib.hid b5; have HB9 := Lib.hid hb9; have O9 := Lib.hid o9; have O9' := Lib.hid o9'
    clear b5 hb9 o9 o9' bo bt hbx
    go_wp2
    have b5 := B5.out; have hb9 := HB9.out; have o9 := O9.out; have o9' := O9'.out
    clear t0 z0 f0 t1 z1 f1 t2 z2 f2 t3 z3 f3 t4 z4 f4 t5 z5 f5 B5 HB9 O9 O9'
    generalize (World.setCell (World.setCell (World.setCell (World.setCell (World.setCell (World.setCell X ⟨g + 1, 0, none⟩ (.int .i64 2)) ⟨g + 1, 1, none⟩ (strV to)) ⟨g + 1, 2, none⟩ (strV nm)) ⟨g + 1, 3, none⟩ (.int .i64 q)) ⟨g + 1, 4, none⟩ (.slice D n kd)) ⟨g + 1, 5, none⟩ (.slice D' n' kd')) = X9 at *
    have q0 : X9.cell? ⟨g + 1, 0, none⟩ = some (.int .i64 2) := b5.cell 0 rfl
    have q1 : X9.cell? ⟨g + 1, 1, none⟩ = some (strV to) := b5.cell 1 rfl
    have q2 : X9.cell? ⟨g + 1, 2, none⟩ = some (strV nm) := b5.cell 2 rfl
    have q3 : X9.cell? ⟨g + 1, 3, none⟩ = some (.int .i64 q) := b5.cell 3 rfl
    have q4 : X9.cell? ⟨g + 1, 4, none⟩ = some (.slice D n kd) := b5.cell 4 rfl
    have q5 : X9.cell? ⟨g + 1, 5, none⟩ = some (.slice D' n' kd') := b5.cell 5 rfl
    refine bodyPost_ret (v := .agg #[.int .i64 2, strV to, strV nm, .int .i64 q, .slice D n kd, .slice D' n' kd']) (by simp [results, Try.results53, go_sem, q0, q1, q2, q3, q4, q5]) rfl ?_
    have hq : turnP ⟨2, nm, to, h⟩ = ⟨2, to, nm, h⟩ := turnP_2 rfl
    have v := HV0.out
    rw [hq, HGS.out.symm, ← HQ.out] at *
    exact turn_fin (p := ⟨2, to, nm, h⟩) o9 o9' v.h.l v.h.l' v.h.m v.h.m' v.h.p (by unfold I64; dsimp only; omega) v.to v.nm v.s v.s' hb9 (by first | exact HHW.out.size | exact HBX.out.size)
  · have HK : Hid (turnP ⟨k, nm, to, h⟩ = ⟨k, nm, to, turn h⟩) := Lib.hid (turnP_h h0 h1 h2)
    have e0 : (k == 0) = false := by rw [beq_eq_false_iff_ne]; exact h0
    have e1 : (k == 1) = false := by rw [beq_eq_false_iff_ne]; exact h1
    have e2 : (k == 2) = false := by rw [beq_eq_false_iff_ne]; exact h2
    clear h0 h1 h2
    have HWC : Hid (w.heap.size ≤ wc.heap.size) := Lib.hid HBX.out.size
    have ht := TurnO A n c A' n' c' wc.heap.size h wc (Nat.le_refl _) hn hn' ((HV0.out.h.below (show Below w.heap.size w wc by rw [HGS.out]; exact HBX.out)).up (by have := HBX.out.size; have := HGS.out; omega))
    rw [HQ.out] at ht
    have HTT := Lib.hid ht; clear ht
    have x0 : wc.cell? ⟨g, 0, none⟩ = some (.int .i64 k) := HBP.out.cell 0 rfl
    have x1 : wc.cell? ⟨g, 1, none⟩ = some (strV nm) := HBP.out.cell 1 rfl
    have x2 : wc.cell? ⟨g, 2, none⟩ = some (strV to) := HBP.out.cell 2 rfl
    have x3 : wc.cell? ⟨g, 3, none⟩ = some (.int .i64 q) := HBP.out.cell 3 rfl
    have x4 : wc.cell? ⟨g, 4, none⟩ = some (.slice A n c) := HBP.out.cell 4 rfl
    have x5 : wc.cell? ⟨g, 5, none⟩ = some (.slice A' n' c') := HBP.out.cell 5 rfl
    go_wp2_with fail
    refine HTT.out.mono ?_
    rintro e w5 ⟨E, ke, E', ke', rfl, r5, r5', hb5⟩
    rw [HQ.out]
    have bt := HBT.out.below hb5 HBT.out.lt; have bo := HBO.out.below hb5 HBO.out.lt; have hbx := HBX.out.trans (hb5.mono (show g ≤ wc.heap.size by have := HBX.out.size; have := HGS.out; omega))
    have hTx := HBT.out.lt; have hgx : g + 1 < wc.heap.size := HBO.out.lt
    clear HTT hb5 x0 x1 x2 x3 x4 x5 HBT HBO HO HO' HBX HBP
    have t0 : w5.cell? ⟨T, 0, none⟩ = some (.int .i64 k) := bt.cell 0 rfl
    have t1 : w5.cell? ⟨T, 1, none⟩ = some (strV nm) := bt.cell 1 rfl
    have t2 : w5.cell? ⟨T, 2, none⟩ = some (strV to) := bt.cell 2 rfl
    have t3 : w5.cell? ⟨T, 3, none⟩ = some (.int .i64 q) := bt.cell 3 rfl
    have t4 : w5.cell? ⟨T, 4, none⟩ = some (.slice D n kd) := bt.cell 4 rfl
    have t5 : w5.cell? ⟨T, 5, none⟩ = some (.slice D' n' kd') := bt.cell 5 rfl
    have f3 : w5.frozen? ⟨T, 3, none⟩ = false := bt.frozen 3
    have f4 : w5.frozen? ⟨T, 4, none⟩ = false := bt.frozen 4
    have f5 : w5.frozen? ⟨T, 5, none⟩ = false := bt.frozen 5
    have bt1 := blk3 bt (.int .i64 q) (.slice E n' ke) (.slice E' n ke')
    have bo1 := ((bo.set_ne HT1.out 3 (.int .i64 q)).set_ne HT1.out 4 (.slice E n' ke)).set_ne HT1.out 5 (.slice E' n ke')
    have h1 := ((hbx.setCell (p := ⟨T, 3, none⟩) HTG.out (.int .i64 q)).setCell (p := ⟨T, 4, none⟩) HTG.out (.slice E n' ke)).setCell (p := ⟨T, 5, none⟩) HTG.out (.slice E' n ke')
    have s1 := own_set (own_set (own_set r5 hTx 3 (.int .i64 q)) hTx 4 (.slice E n' ke)) hTx 5 (.slice E' n ke')
    have s2 := own_set (own_set (own_set r5' hTx 3 (.int .i64 q)) hTx 4 (.slice E n' ke)) hTx 5 (.slice E' n ke')
    have BT := Lib.hid bt1; have BO := Lib.hid bo1; have O := Lib.hid s1; have O' := Lib.hid s2; have HX := Lib.hid h1; have HGX := Lib.hid hgx
    clear bt1 bo1 s1 s2 h1 bt bo hbx r5 r5' hTx hgx
    go_upto_region 10 with fail
    have bt := BT.out; have bo := BO.out; have o := O.out; have o' := O'.out; have hbx := HX.out
    clear t0 t1 t2 t3 t4 t5 f3 f4 f5 BT BO O O' HX
    generalize (World.setCell (World.setCell (World.setCell w5 ⟨T, 3, none⟩ (.int .i64 q)) ⟨T, 4, none⟩ (.slice E n' ke)) ⟨T, 5, none⟩ (.slice E' n ke')) = X at *
    have t0 : X.cell? ⟨T, 0, none⟩ = some (.int .i64 k) := bt.cell 0 rfl
    have t1 : X.cell? ⟨T, 1, none⟩ = some (strV nm) := bt.cell 1 rfl
    have t2 : X.cell? ⟨T, 2, none⟩ = some (strV to) := bt.cell 2 rfl
    have t3 : X.cell? ⟨T, 3, none⟩ = some (.int .i64 q) := bt.cell 3 rfl
    have t4 : X.cell? ⟨T, 4, none⟩ = some (.slice E n' ke) := bt.cell 4 rfl
    have t5 : X.cell? ⟨T, 5, none⟩ = some (.slice E' n ke') := bt.cell 5 rfl
    have z0 : X.cell? ⟨g + 1, 0, none⟩ = some (.int .i64 0) := bo.cell 0 rfl
    have z1 : X.cell? ⟨g + 1, 1, none⟩ = some (.string ⟨#[]⟩) := bo.cell 1 rfl
    have z2 : X.cell? ⟨g + 1, 2, none⟩ = some (.string ⟨#[]⟩) := bo.cell 2 rfl
    have z3 : X.cell? ⟨g + 1, 3, none⟩ = some (.int .i64 0) := bo.cell 3 rfl
    have z4 : X.cell? ⟨g + 1, 4, none⟩ = some (.slice none 0 0) := bo.cell 4 rfl
    have z5 : X.cell? ⟨g + 1, 5, none⟩ = some (.slice none 0 0) := bo.cell 5 rfl
    have f0 : X.frozen? ⟨g + 1, 0, none⟩ = false := bo.frozen 0
    have f1 : X.frozen? ⟨g + 1, 1, none⟩ = false := bo.frozen 1
    have f2 : X.frozen? ⟨g + 1, 2, none⟩ = false := bo.frozen 2
    have f3 : X.frozen? ⟨g + 1, 3, none⟩ = false := bo.frozen 3
    have f4 : X.frozen? ⟨g + 1, 4, none⟩ = false := bo.frozen 4
    have f5 : X.frozen? ⟨g + 1, 5, none⟩ = false := bo.frozen 5
    have b5 := blk6 bo (.int .i64 k) (strV nm) (strV to) (.int .i64 q) (.slice E n' ke) (.slice E' n ke')
    have hb9 := bel_set6 hbx (Nat.le_succ g) (.int .i64 k) (strV nm) (strV to) (.int .i64 q) (.slice E n' ke) (.slice E' n ke')
    have o9 := own_set6' o HGX.out (.int .i64 k) (strV nm) (strV to) (.int .i64 q) (.slice E n' ke) (.slice E' n ke')
    have o9' := own_set6' o' HGX.out (.int .i64 k) (strV nm) (strV to) (.int .i64 q) (.slice E n' ke) (.slice E' n ke')
    have B5 := Lib.hid b5; have HB9 := Lib.hid hb9; have O9 := Lib.hid o9; have O9' := Lib.hid o9'
    clear b5 hb9 o9 o9' bo bt hbx
    go_wp2
    have b5 := B5.out; have hb9 := HB9.out; have o9 := O9.out; have o9' := O9'.out
    clear t0 z0 f0 t1 z1 f1 t2 z2 f2 t3 z3 f3 t4 z4 f4 t5 z5 f5 B5 HB9 O9 O9'
    generalize (World.setCell (World.setCell (World.setCell (World.setCell (World.setCell (World.setCell X ⟨g + 1, 0, none⟩ (.int .i64 k)) ⟨g + 1, 1, none⟩ (strV nm)) ⟨g + 1, 2, none⟩ (strV to)) ⟨g + 1, 3, none⟩ (.int .i64 q)) ⟨g + 1, 4, none⟩ (.slice E n' ke)) ⟨g + 1, 5, none⟩ (.slice E' n ke')) = X9 at *
    have q0 : X9.cell? ⟨g + 1, 0, none⟩ = some (.int .i64 k) := b5.cell 0 rfl
    have q1 : X9.cell? ⟨g + 1, 1, none⟩ = some (strV nm) := b5.cell 1 rfl
    have q2 : X9.cell? ⟨g + 1, 2, none⟩ = some (strV to) := b5.cell 2 rfl
    have q3 : X9.cell? ⟨g + 1, 3, none⟩ = some (.int .i64 q) := b5.cell 3 rfl
    have q4 : X9.cell? ⟨g + 1, 4, none⟩ = some (.slice E n' ke) := b5.cell 4 rfl
    have q5 : X9.cell? ⟨g + 1, 5, none⟩ = some (.slice E' n ke') := b5.cell 5 rfl
    refine bodyPost_ret (v := .agg #[.int .i64 k, strV nm, strV to, .int .i64 q, .slice E n' ke, .slice E' n ke']) (by simp [results, Try.results53, go_sem, q0, q1, q2, q3, q4, q5]) rfl ?_
    have v := HV0.out
    rw [HK.out, HGS.out.symm, ← HQ.out] at *
    exact turn_fin (p := ⟨k, nm, to, turn h⟩) o9 o9' v.h.l' v.h.l v.h.m' v.h.m v.h.p v.k v.nm v.to v.s' v.s hb9 HWC.out

theorem TurnP (A : Option Addr) (n c : Nat) (A' : Option Addr) (n' c' : Nat) (p : Ch) (w : World) (hn : n ≤ 1000) (hn' : n' ≤ 1000) (hv : PV w w.heap.size A n c A' n' c' p) :
    Calls Try.prog 53 #[prV p.k p.nm p.to p.h.pos A n c A' n' c'] w (PTEnd w (turnP p)) :=
  (TurnPH A n c A' n' c' p w hn hn' hv).mono fun e w' h => h.end_

end Pr
end Go.Proofs.Ytjhjmfodpnipiaa
