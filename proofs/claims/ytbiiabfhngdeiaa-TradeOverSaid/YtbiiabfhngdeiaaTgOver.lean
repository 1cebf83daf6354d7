/-
  What stands ahead of the range in package trade's Over (walk): a copy of the patch, in a box of its own.
-/
import Derived.Test.YtbiiabfhngdeiaaTgPass
import Derived.Test.YtbiiabfhngdeiaaTgWords
import Derived.Test.YtbiiabfhngdeiaaPnEx
import Derived.Test.YtbiiabfhngdeiaaPnAll
import Derived.Deep.Cut
set_option maxRecDepth 100000
namespace Go.Proofs.Ytbiiabfhngdeiaa
open Go.RowKit Go.Shelf
set_option linter.unusedVariables false
set_option linter.unusedSimpArgs false
namespace Tg
open Tx Df Sq Hk Tr Pr Rg Fl Pn
attribute [local go_sem] Oper.semAt_some

/-- The copy of a patch in a box of its own. -/
def FirstEnd (w : World) (q : Nm) (dn m F : Nat) (W : World) : Prop :=
  ∃ D c A e, Blk W F 28 #[.int .i64 q.id.1, .int .i64 q.id.2, .slice D dn c, strV q.txt, .slice A m e] ∧ NG W (fun b => w.heap.size ≤ b ∧ b < W.heap.size ∧ b ≠ F) D dn c A m e q ∧ w.heap.size ≤ F ∧ Below w.heap.size w W
theorem first_d0 (w : World) (c : Array Value) : Below w.heap.size w (w.alloc (.cells c 28)).drew ∧ Blk (w.alloc (.cells c 28)).drew w.heap.size 28 c :=
  ⟨below_drewN ((Below.refl _ _).alloc (Nat.le_refl _) _) 1, (Blk.new w _ _).drewN 1⟩
theorem first_d2 (w : World) (c c' : Array Value) : Below w.heap.size w ((w.alloc (.cells c 28)).alloc (.cells c' 28)).drew ∧ (Below w.heap.size w ((w.alloc (.cells c 28)).alloc (.cells c' 28)).drew ∧ Blk ((w.alloc (.cells c 28)).alloc (.cells c' 28)).drew (w.heap.size + 1) 28 c') ∧ Blk ((w.alloc (.cells c 28)).alloc (.cells c' 28)).drew w.heap.size 28 c := by
  have h := below_drewN (two_box w (.cells c 28) (.cells c' 28)) 1
  have b := Blk.new (w.alloc (.cells c 28)) 28 c'
  rw [World.size_alloc] at b
  exact ⟨h, ⟨h, b.drewN 1⟩, ((Blk.new w 28 c).alloc _).drewN 1⟩
theorem first_all {X : World} {D E : Option Addr} {dn dc m k G : Nat} {q : Nm} (hm : m ≤ 1000) (hl : Lt q.l) (hv : NV X X.heap.size D dn dc E m k q) (hb : Blk X G 28 #[.int .i64 q.id.1, .int .i64 q.id.2, .slice D dn dc, strV q.txt, .slice E m k]) :
    Calls Try.prog 27 #[.slice (some ⟨G, 0, none⟩) 1 1] X (fun e u => ∃ A c, e = .returned (.slice A m c) ∧ m ≤ c ∧ RdP u (Since X u) A q.l ∧ Below X.heap.size X u) := by
  have he : allN [q] = q.l := by unfold allN; simp
  refine (AllN (some ⟨G, 0, none⟩) 1 1 [q] X rfl (by decide) (by rw [he, hv.l]; exact hm) (by rw [he]; exact hl) (rdN_lone hb hv hb.lt)).mono ?_
  rintro e u ⟨A, c, rfl, h1, h2, h3⟩
  rw [he] at h1 h2 ⊢
  rw [hv.l] at h1 ⊢
  exact ⟨A, c, rfl, h1, h2, h3⟩
theorem size4 (w : World) (o0 o1 o2 o3 : Obj) : ((((w.alloc o0).alloc o1).alloc o2).alloc o3).heap.size = w.heap.size + 4 := by simp
theorem size_lt1 (w : World) (o : Obj) : w.heap.size < (w.alloc o).drew.heap.size := by show _ < (w.alloc o).heap.size; simp
theorem size_lt1' (w : World) (o : Obj) : w.heap.size < (w.alloc o).heap.size := by simp
theorem size_lt2 (w : World) (o o' : Obj) : w.heap.size < ((w.alloc o).alloc o').drew.heap.size := by show _ < ((w.alloc o).alloc o').heap.size; simp; omega
theorem size_lt2' (w : World) (o o' : Obj) : w.heap.size + 1 < ((w.alloc o).alloc o').drew.heap.size := by show _ < ((w.alloc o).alloc o').heap.size; simp
theorem below_skip {u v : World} {o : Obj} (h : Below (u.alloc o).heap.size (u.alloc o) v) : Below u.heap.size u v := ((Below.refl _ _).alloc (Nat.le_refl _) o).trans (h.mono (by simp))
theorem first_lay {w0 w1 u1 u2 : World} {D E D2 A1 : Option Addr} {dn dc m k c1 c2 F : Nat} {X Y : World} {q : Nm} (hv : NV w0 w0.heap.size D dn dc E m k q) (hR1 : RdP u1 (Since X u1) A1 q.l) (hR2 : RdG u2 (Since Y u2) D2 (idsV q.deps)) (h12 : Below u1.heap.size u1 u2) (h1F : F < X.heap.size ∨ u1.heap.size ≤ F) (h2F : F < Y.heap.size) (hl1 : w1.heap.size ≤ X.heap.size) (hl2 : w1.heap.size ≤ Y.heap.size) (hFw : w1.heap.size ≤ F) (hU2 : Below w1.heap.size w1 u2) (tf : Blk u2 F 28 #[.int .i64 0, .int .i64 0, .slice none 0 0, .string ⟨#[]⟩, .slice none 0 0]) (hk1 : m ≤ c1) (hk2 : dn ≤ c2) :
    FirstEnd w1 q dn m F (((((u2.setCell ⟨F, 0, none⟩ (.int .i64 q.id.1)).setCell ⟨F, 1, none⟩ (.int .i64 q.id.2)).setCell ⟨F, 2, none⟩ (.slice D2 dn c2)).setCell ⟨F, 3, none⟩ (strV q.txt)).setCell ⟨F, 4, none⟩ (.slice A1 m c1)) := by
  have hs := h12.size
  have al := alike_set5 u2 F (.int .i64 q.id.1) (.int .i64 q.id.2) (.slice D2 dn c2) (strV q.txt) (.slice A1 m c1)
  have r1 := (hR1.to ((alike_below h12).mono fun b hb => hb.2)).to (al.mono fun b hb => by have := hb.1; have := hb.2; omega)
  have r2 := hR2.to (al.mono fun b hb => by have := hb.1; omega)
  refine ⟨D2, c2, A1, c1, blk5 tf _ _ _ _ _, ⟨hv.dl, hk2, hv.dm, r2.mono fun b hb => ?_, hv.tm, hv.l, hk1, hv.m, r1.mono fun b hb => ?_⟩, hFw, below_set5 hU2 hFw _ _ _ _ _⟩
  · have h1 := hb.1; have h2 := hb.2
    exact ⟨by omega, by simp; omega, by omega⟩
  · have h1 := hb.1; have h2 := hb.2
    exact ⟨by omega, by simp; omega, by omega⟩
theorem first_lay_d {w0 w1 u1 u2 : World} {D E D2 A1 : Option Addr} {dn dc m k c1 c2 : Nat} {X Y : World} {q : Nm} (hv : NV w0 w0.heap.size D dn dc E m k q) (hR1 : RdP u1 (Since X u1) A1 q.l) (hR2 : RdG u2 (Since Y u2) D2 (idsV q.deps)) (h12 : Below u1.heap.size u1 u2) (hl1 : w1.heap.size ≤ X.heap.size) (hl2 : w1.heap.size ≤ Y.heap.size) (hU2 : Below w1.heap.size w1 u2) (hk1 : m ≤ c1) (hk2 : dn ≤ c2) :
    FirstEnd w1 q dn m u2.heap.size (u2.alloc (.cells #[.int .i64 q.id.1, .int .i64 q.id.2, .slice D2 dn c2, strV q.txt, .slice A1 m c1] 28)) := by
  have hs := h12.size
  have hba : Below u2.heap.size u2 (u2.alloc (.cells #[.int .i64 q.id.1, .int .i64 q.id.2, .slice D2 dn c2, strV q.txt, .slice A1 m c1] 28)) := (Below.refl _ _).alloc (Nat.le_refl _) _
  have r1 := (hR1.to ((alike_below h12).mono fun b hb => hb.2)).to ((alike_below hba).mono fun b hb => by have := hb.2; omega)
  have r2 := hR2.to ((alike_below hba).mono fun b hb => hb.2)
  refine ⟨D2, c2, A1, c1, Blk.new _ _ _, ⟨hv.dl, hk2, hv.dm, r2.mono fun b hb => ?_, hv.tm, hv.l, hk1, hv.m, r1.mono fun b hb => ?_⟩, hU2.size, hU2.trans (hba.mono hU2.size)⟩
  · have h1 := hb.1; have h2 := hb.2
    exact ⟨by omega, by simp; omega, by omega⟩
  · have h1 := hb.1; have h2 := hb.2
    exact ⟨by omega, by simp; omega, by omega⟩

set_option maxRecDepth 100000 in
set_option maxHeartbeats 4000000 in
theorem OverN (A : Option Addr) (n c : Nat) (l : List Nm) (D : Option Addr) (dn dc : Nat) (E : Option Addr) (m k : Nat) (q : Nm) (w : World) (hle : n ≤ 1000) (hm : m ≤ 1000) (hd : dn ≤ 100000) (hl : Lt q.l) (hls : RdN w w.heap.size A l) (hln : l.length = n) (hall : ∀ p ∈ l, Lt p.l ∧ p.l.length ≤ 1000 ∧ p.deps.length ≤ 100000) (hv : NV w w.heap.size D dn dc E m k q) (xo : Nm) (ys : List Nm) (bo : Bool) (ho : outO (overN l q) = (xo, ys)) (hs : (overN l q).isSome = bo) :
    Calls Try.prog 13 #[.slice A n c, nmV q.id D dn dc q.txt E m k] w (NOverEnd w xo ys bo) := by
  have HO := Lib.hid ho; have HS := Lib.hid hs
  clear ho hs
  refine (callsIn_wide (n := 4)).1 ?_
  refine callsIn_of_wp_marks Try.func13 rfl trivial ?_ rfl
  simp only [Try.ntmps13, List.size_toArray, List.length_cons, List.length_nil, Nat.reduceAdd, Nat.reduceSub, Array.replicate_succ, Array.replicate_zero, List.push_toArray, List.append_toArray, List.nil_append, List.cons_append]
  gi_wp2_with fail
  refine wpIn_wide.2 ?_
  have hs1 := size4 w (.cells #[.int .i64 q.id.1, .int .i64 q.id.2, .slice D dn dc, strV q.txt, .slice E m k] 28) (.cells #[.int .i64 0, .int .i64 0, .slice none 0 0, .string ⟨#[]⟩, .slice none 0 0] 28) (.cells #[.slice none 0 0] 22) (.cells #[.bool false] 4)
  obtain ⟨b0, b1, b2, b3, hba⟩ := four_blk w 28 28 22 4 #[.int .i64 q.id.1, .int .i64 q.id.2, .slice D dn dc, strV q.txt, .slice E m k] #[.int .i64 0, .int .i64 0, .slice none 0 0, .string ⟨#[]⟩, .slice none 0 0] #[.slice none 0 0] #[.bool false]
  generalize ((((w.alloc (.cells #[.int .i64 q.id.1, .int .i64 q.id.2, .slice D dn dc, strV q.txt, .slice E m k] 28)).alloc (.cells #[.int .i64 0, .int .i64 0, .slice none 0 0, .string ⟨#[]⟩, .slice none 0 0] 28)).alloc (.cells #[.slice none 0 0] 22)).alloc (.cells #[.bool false] 4)) = w1 at b0 b1 b2 b3 hba hs1 ⊢
  obtain ⟨z, hz⟩ : ∃ z, w.heap.size = z := ⟨_, rfl⟩
  rw [hz] at b0 b1 b2 b3 hs1 ⊢
  have HZ := Lib.hid hz; have HS1 := Lib.hid hs1
  have HB0 := Lib.hid b0; have HB1 := Lib.hid b1; have HB2 := Lib.hid b2; have HB3 := Lib.hid b3; have HBW := Lib.hid hba
  have HV := Lib.hid (hv.mv hba)
  clear b0 b1 b2 b3 hba hz hv hs1
  have HSB : Hid (∀ X : World, Blk X z 28 #[.int .i64 q.id.1, .int .i64 q.id.2, .slice D dn dc, strV q.txt, .slice E m k] → X.cell? ⟨z, 0, none⟩ = some (.int .i64 q.id.1) ∧ X.cell? ⟨z, 1, none⟩ = some (.int .i64 q.id.2) ∧ X.cell? ⟨z, 2, none⟩ = some (.slice D dn dc) ∧ X.cell? ⟨z, 3, none⟩ = some (strV q.txt) ∧ X.cell? ⟨z, 4, none⟩ = some (.slice E m k)) := Lib.hid (fun X h1 => ⟨h1.cell 0 rfl, h1.cell 1 rfl, h1.cell 2 rfl, h1.cell 3 rfl, h1.cell 4 rfl⟩)
  have HC : Hid (∀ X, Below w1.heap.size w1 X → X.cell? ⟨z, 0, none⟩ = some (.int .i64 q.id.1) ∧ X.cell? ⟨z, 1, none⟩ = some (.int .i64 q.id.2) ∧ X.cell? ⟨z, 2, none⟩ = some (.slice D dn dc) ∧ X.cell? ⟨z, 3, none⟩ = some (strV q.txt) ∧ X.cell? ⟨z, 4, none⟩ = some (.slice E m k)) := Lib.hid (fun X hb => HSB.out X (HB0.out.below hb HB0.out.lt))
  have HF : Hid (∀ (X : World) (F : Nat) (v0 v1 v2 v3 v4 : Value), Below w1.heap.size w1 X → w1.heap.size ≤ F → (((((X.setCell ⟨F, 0, none⟩ v0).setCell ⟨F, 1, none⟩ v1).setCell ⟨F, 2, none⟩ v2).setCell ⟨F, 3, none⟩ v3).setCell ⟨F, 4, none⟩ v4).cell? ⟨z, 0, none⟩ = some (.int .i64 q.id.1) ∧ (((((X.setCell ⟨F, 0, none⟩ v0).setCell ⟨F, 1, none⟩ v1).setCell ⟨F, 2, none⟩ v2).setCell ⟨F, 3, none⟩ v3).setCell ⟨F, 4, none⟩ v4).cell? ⟨z, 1, none⟩ = some (.int .i64 q.id.2) ∧ (((((X.setCell ⟨F, 0, none⟩ v0).setCell ⟨F, 1, none⟩ v1).setCell ⟨F, 2, none⟩ v2).setCell ⟨F, 3, none⟩ v3).setCell ⟨F, 4, none⟩ v4).cell? ⟨z, 2, none⟩ = some (.slice D dn dc) ∧ (((((X.setCell ⟨F, 0, none⟩ v0).setCell ⟨F, 1, none⟩ v1).setCell ⟨F, 2, none⟩ v2).setCell ⟨F, 3, none⟩ v3).setCell ⟨F, 4, none⟩ v4).cell? ⟨z, 3, none⟩ = some (strV q.txt) ∧ (((((X.setCell ⟨F, 0, none⟩ v0).setCell ⟨F, 1, none⟩ v1).setCell ⟨F, 2, none⟩ v2).setCell ⟨F, 3, none⟩ v3).setCell ⟨F, 4, none⟩ v4).cell? ⟨z, 4, none⟩ = some (.slice E m k)) := Lib.hid (fun X F v0 v1 v2 v3 v4 hb hF => HSB.out _ (blk_set5 (HB0.out.below hb HB0.out.lt) (by have := HB0.out.lt; omega) v0 v1 v2 v3 v4))
  have HD0 := Lib.hid (first_d0 w1 #[.int .i64 q.id.1, .int .i64 q.id.2, .slice D dn dc, strV q.txt, .slice E m k]); have HDZ := Lib.hid (first_d0 w1 #[.int .i64 0, .int .i64 0, .slice none 0 0, .string ⟨#[]⟩, .slice none 0 0]); have HDA := Lib.hid (first_d2 w1 #[.int .i64 0, .int .i64 0, .slice none 0 0, .string ⟨#[]⟩, .slice none 0 0] #[.int .i64 q.id.1, .int .i64 q.id.2, .slice D dn dc, strV q.txt, .slice E m k]); have HDB := Lib.hid (first_d2 w1 #[.int .i64 q.id.1, .int .i64 q.id.2, .slice D dn dc, strV q.txt, .slice E m k] #[.int .i64 0, .int .i64 0, .slice none 0 0, .string ⟨#[]⟩, .slice none 0 0])
  have PA : Hid (∀ (X : World) (G : Nat), (Below w1.heap.size w1 X ∧ Blk X G 28 #[.int .i64 q.id.1, .int .i64 q.id.2, .slice D dn dc, strV q.txt, .slice E m k]) → Calls Try.prog 27 #[.slice (some ⟨G, 0, none⟩) 1 1] X (fun e u => ∃ A c, e = .returned (.slice A m c) ∧ m ≤ c ∧ RdP u (Since X u) A q.l ∧ Below X.heap.size X u)) := Lib.hid (fun X G h => first_all hm hl (HV.out.mv h.1) h.2)
  have PW : Hid (∀ (X : World) A c, Below w1.heap.size w1 X → Calls Try.prog 24 #[nmV q.id D dn dc q.txt E m k, .slice A m c] X (WithEnd X q dn A m c)) := Lib.hid (fun X A c hb => With D dn dc E m k q A m c X hd HV.out.dl (RdI.mv HV.out.dr hb))
  have HKD := Lib.hid (HC.out w1.drew (below_drewN (Below.refl _ _) 1))
  go_cut [7, 14, 15] from 16 (fun s7 s14 s15 wx => ∃ F, s7 = .pointer (some ⟨F, 0, none⟩) ∧ s14 = nmV q.id D dn dc q.txt E m k ∧ s15 = nmV q.id D dn dc q.txt E m k ∧ FirstEnd w1 q dn m F wx)
  case first =>
    obtain ⟨z0, z1, z2, z3, z4⟩ := HC.out w1 (Below.refl _ _)
    go_region_held3 (fun X => X.cell? ⟨z, 0, none⟩ = some (.int .i64 q.id.1) ∧ X.cell? ⟨z, 1, none⟩ = some (.int .i64 q.id.2) ∧ X.cell? ⟨z, 2, none⟩ = some (.slice D dn dc) ∧ X.cell? ⟨z, 3, none⟩ = some (strV q.txt) ∧ X.cell? ⟨z, 4, none⟩ = some (.slice E m k))
      (first | (with_reducible exact HKD.out) | (with_reducible exact HC.out _ HD0.out.1) | (with_reducible exact HC.out _ HDZ.out.1) | (with_reducible exact HC.out _ HDA.out.1) | (with_reducible exact HC.out _ HDB.out.1) | (with_reducible exact hS1) | (with_reducible exact hS2) | (with_reducible exact HC.out _ HE1.out) | (with_reducible exact HC.out _ HE2.out) | (with_reducible exact HC.out _ HE3.out) | (with_reducible exact HF.out _ _ _ _ _ _ _ HU2.out hFle))
      (first
        | (go_at_call 27; (with_reducible refine (PA.out (w1.alloc (.cells #[.int .i64 q.id.1, .int .i64 q.id.2, .slice D dn dc, strV q.txt, .slice E m k] 28)).drew _ HD0.out).mono ?_); rintro e u1 ⟨A1, c1, rfl, hk1, hr1, hb1⟩; have hbu := HD0.out.1.trans (hb1.mono HD0.out.1.size); have HE1 := Lib.hid (hbu.alloc hbu.size (.cells #[.int .i64 0, .int .i64 0, .slice none 0 0, .string ⟨#[]⟩, .slice none 0 0] 28)); have hS1 := HC.out u1 hbu; have HU1 := Lib.hid hbu; have HR1 := Lib.hid hr1; have HB1u := Lib.hid hb1; have HK1 := Lib.hid hk1; clear hb1 hbu hr1 hk1)
        | (go_at_call 27; (with_reducible refine (PA.out ((w1.alloc (.cells #[.int .i64 0, .int .i64 0, .slice none 0 0, .string ⟨#[]⟩, .slice none 0 0] 28)).alloc (.cells #[.int .i64 q.id.1, .int .i64 q.id.2, .slice D dn dc, strV q.txt, .slice E m k] 28)).drew _ HDA.out.2.1).mono ?_); rintro e u1 ⟨A1, c1, rfl, hk1, hr1, hb1⟩; have hbu := HDA.out.1.trans (hb1.mono HDA.out.1.size); have tf := HDA.out.2.2.below hb1 HDA.out.2.2.lt; have hFle := Nat.le_refl w1.heap.size; have hS1 := HC.out u1 hbu; have HU1 := Lib.hid hbu; have HR1 := Lib.hid hr1; have HB1u := Lib.hid hb1; have HK1 := Lib.hid hk1; clear hb1 hbu hr1 hk1)
        | (go_at_call 27; (with_reducible refine (PA.out ((w1.alloc (.cells #[.int .i64 q.id.1, .int .i64 q.id.2, .slice D dn dc, strV q.txt, .slice E m k] 28)).alloc (.cells #[.int .i64 0, .int .i64 0, .slice none 0 0, .string ⟨#[]⟩, .slice none 0 0] 28)).drew _ ⟨HDB.out.1, HDB.out.2.2⟩).mono ?_); rintro e u1 ⟨A1, c1, rfl, hk1, hr1, hb1⟩; have hbu := HDB.out.1.trans (hb1.mono HDB.out.1.size); have tf := HDB.out.2.1.2.below hb1 HDB.out.2.1.2.lt; have hFle := Nat.le_succ w1.heap.size; have hS1 := HC.out u1 hbu; have HU1 := Lib.hid hbu; have HR1 := Lib.hid hr1; have HB1u := Lib.hid hb1; have HK1 := Lib.hid hk1; clear hb1 hbu hr1 hk1)
        | (go_at_call 24; (with_reducible refine (PW.out u1 _ _ HU1.out).mono ?_); rintro e u2 ⟨D2, c2, rfl, hk2, hr2, hb2⟩; have hbu := HU1.out.trans (hb2.mono HU1.out.size); have hS2 := HC.out u2 hbu; have HU2 := Lib.hid hbu; have HB2u := Lib.hid hb2; have HR2 := Lib.hid hr2; have HK2 := Lib.hid hk2; have HE2 := Lib.hid (hbu.alloc hbu.size (.cells #[.int .i64 q.id.1, .int .i64 q.id.2, .slice D2 dn c2, strV q.txt, .slice A1 m c1] 28)); have HE3 := Lib.hid (hbu.alloc hbu.size (.cells #[.int .i64 0, .int .i64 0, .slice none 0 0, .string ⟨#[]⟩, .slice none 0 0] 28)); first | (have tf2 := tf.below hb2 tf.lt; have y0 := tf2.cell 0 rfl; have y1 := tf2.cell 1 rfl; have y2 := tf2.cell 2 rfl; have y3 := tf2.cell 3 rfl; have y4 := tf2.cell 4 rfl; have fz0 := tf2.frozen 0; have fz1 := tf2.frozen 1; have fz2 := tf2.frozen 2; have fz3 := tf2.frozen 3; have fz4 := tf2.frozen 4; have ylt := tf2.lt; clear hb2 hbu hr2 hk2) | (clear hb2 hbu hr2 hk2))
        | (go_at_call 24; (with_reducible refine (PW.out (u1.alloc (.cells #[.int .i64 0, .int .i64 0, .slice none 0 0, .string ⟨#[]⟩, .slice none 0 0] 28)) _ _ HE1.out).mono ?_); rintro e u2 ⟨D2, c2, rfl, hk2, hr2, hb2⟩; have hbu := HE1.out.trans (hb2.mono HE1.out.size); have hS2 := HC.out u2 hbu; have HU2 := Lib.hid hbu; have HB2u := Lib.hid hb2; have HR2 := Lib.hid hr2; have HK2 := Lib.hid hk2; have tf := Blk.new u1 28 #[.int .i64 0, .int .i64 0, .slice none 0 0, .string ⟨#[]⟩, .slice none 0 0]; have hFle := HU1.out.size; have tf2 := tf.below hb2 tf.lt; have y0 := tf2.cell 0 rfl; have y1 := tf2.cell 1 rfl; have y2 := tf2.cell 2 rfl; have y3 := tf2.cell 3 rfl; have y4 := tf2.cell 4 rfl; have fz0 := tf2.frozen 0; have fz1 := tf2.frozen 1; have fz2 := tf2.frozen 2; have fz3 := tf2.frozen 3; have fz4 := tf2.frozen 4; have ylt := tf2.lt; clear hb2 hbu hr2 hk2))
    all_goals (try go_wp2_with fail)
    all_goals go_meet
    (with_reducible exact ⟨_, rfl, rfl, rfl, first_lay_d HV.out HR1.out HR2.out HB2u.out (Nat.le_of_lt (size_lt1 w1 _)) HU1.out.size HU2.out HK1.out HK2.out⟩)
    (with_reducible exact ⟨_, rfl, rfl, rfl, first_lay HV.out HR1.out HR2.out (below_skip HB2u.out) (.inr (Nat.le_refl _)) (size_lt1' u1 _) (Nat.le_of_lt (size_lt1 w1 _)) (Nat.le_trans HU1.out.size (Nat.le_of_lt (size_lt1' u1 _))) HU1.out.size HU2.out tf2 HK1.out HK2.out⟩)
    (with_reducible exact ⟨_, rfl, rfl, rfl, first_lay HV.out HR1.out HR2.out HB2u.out (.inl (size_lt2' w1 _ _)) (Nat.lt_of_lt_of_le tf.lt (Nat.le_refl _)) (Nat.le_of_lt (size_lt2 w1 _ _)) HU1.out.size hFle HU2.out tf2 HK1.out HK2.out⟩)
    (with_reducible exact ⟨_, rfl, rfl, rfl, first_lay HV.out HR1.out HR2.out HB2u.out (.inl (size_lt2 w1 _ _)) (Nat.lt_of_lt_of_le tf.lt (Nat.le_refl _)) (Nat.le_of_lt (size_lt2 w1 _ _)) HU1.out.size hFle HU2.out tf2 HK1.out HK2.out⟩)
  case rest =>
    obtain ⟨F, rfl, rfl, rfl, D1, e1, E1, k1, hbf, hng, hFw, hb⟩ := hcut
    clear HSB HC HF HD0 HDZ HDA HDB PA PW HKD
    obtain ⟨j0, hj, hy0, hy1, hy2⟩ := info_parts info_named
    have hmk : ∀ W : World, (Instr.makeSlice 22 (.int .i64 (n : Int)) (.int .i64 (n : Int))).run Try.prog W = .ok (.slice (some ⟨W.heap.size, 0, none⟩) n n) (W.alloc (.cells (madeCells #[.int .i64 0, .int .i64 0, .slice none 0 0, .string ⟨#[]⟩, .slice none 0 0] (n * 5)) 28)) := by
      intro W
      have := run_make (P := Try.prog) W 22 28 j0 _ Try.underlying22 hj hy0 .i64 .i64 (n : Int) (n : Int) (by omega) (by omega) (by rw [hy2]; omega) (by omega)
      simp only [Int.toNat_natCast, hy1] at this
      exact this
    gi_wp2_with fail
    refine ⟨trivial, ?_⟩
    refine (backN_in 3 A n c _).mono ?_
    rintro e w' ⟨rfl, rfl⟩
    gi_wp2
    have hst := over_start (A := A) (l := l) (n := n) HZ.out (by rw [← HS1.out]) HBW.out HB1.out HB2.out HB3.out hbf hng hFw hb hls hln hle hl c
    dsimp only [noC] at hst
    obtain ⟨g, hg⟩ : ∃ g, wc.heap.size = g := ⟨_, rfl⟩
    rw [hg] at hst
    have hFg : F < g := by rw [← hg]; exact hbf.lt
    have hz4 : z + 4 ≤ F := by rw [← HS1.out]; exact hFw
    rw [hg]
    generalize (((wc.alloc (.cells (madeCells #[.int .i64 0, .int .i64 0, .slice none 0 0, .string ⟨#[]⟩, .slice none 0 0] (n * 5)) 28)).alloc (.cells #[.slice (some ⟨g, 0, none⟩) n n] 22)).alloc (.cells #[.slice A n c] 22)) = w5 at hst ⊢
    obtain ⟨hst, hbs, hsz, hc5⟩ := hst
    clear hmk hbf hng hb hg HB1 HB2 HB3 HB0 HV hj hy0 hy1 hy2
    have HZW : w.heap.size = z := HZ.out
    have HLN := Lib.hid hln; have HALL := Lib.hid hall
    clear hln hall
    refine range_law (n := 4) (gf := 44) (lb := #[.pointer (some ⟨g + 1 + 1, 0, none⟩)]) rfl (enters_of Try.func44 (by kernel_rfl) rfl) (Free := Plain) (fun _ h => h)
      (backN_gives 3 (g + 1 + 1) c n A (by omega) w5 hbs hc5) kpN_t (kpN_b (by rw [hsz]; omega)) (fun x vals W h => by obtain ⟨_, _, _, _, _, _, _, _, rfl, _⟩ := h; rfl)
      (OvJ w z F g n A l q dn m) (OvX w z l q) (ovJ_ab (by rw [hsz]; omega)) (ovX_ab (by rw [hsz]; omega)) hst
      (fun i a' X => ∃ b v0 v1 v2 v3 v4, a' = { tmps := #[.slice A n c, nmV q.id D dn dc q.txt E m k, undef, .pointer (some ⟨z, 0, none⟩), .pointer (some ⟨z + 1, 0, none⟩), .pointer (some ⟨z + 1 + 1, 0, none⟩), .pointer (some ⟨z + 1 + 1 + 1, 0, none⟩), .pointer (some ⟨F, 0, none⟩), .pointer (some ⟨g + 1, 0, none⟩), .int .i64 (i : Int), .pointer (some ⟨b, 0, none⟩), undef, undef, undef, nmV q.id D dn dc q.txt E m k, nmV q.id D dn dc q.txt E m k, u16, u17, u18, .slice A n c, .int .i64 (n : Int), .slice (some ⟨g, 0, none⟩) n n, .slice A n c, .func (.func 44) #[] #[.pointer (some ⟨g + 1 + 1, 0, none⟩)], .int .i64 (i : Int), .agg #[v0, v1, v2, v3, v4], u26, u27, u28, u29, u30, u31, u32, u33, u34, u35, u36, u37, u38, u39, u40, u41, u42], defers := [] } ∧ EN n A i #[.int .i64 (i : Int), .agg #[v0, v1, v2, v3, v4]] X ∧ Blk X b 28 #[v0, v1, v2, v3, v4])
      (fun i a' => ab_ex fun b => ab_ex fun v0 => ab_ex fun v1 => ab_ex fun v2 => ab_ex fun v3 => ab_ex fun v4 => Ab.and (ab_pure _ _ _) (Ab.and ab_EN (ab_blk fun _ => _))) ?assign ?body ?done ?stop
    case assign =>
      rintro y pre i vals X K hi hEL hK
      obtain ⟨x, post, Dx, dcx, Ex, kx, hI⟩ := id hi
      obtain ⟨p, D', dn', dc', E', m', k', hp, rfl, hv⟩ := EN.rd hEL hI.ls HLN.out
      clear hI hp hv
      gi_wp2
      exact hK _ _ ((KeepsOthers.alloc X _).from _) (kpN_new (World.grownBy_alloc X _ none)) ((ovJ_ab (Nat.le_refl _)).alloc _ hi) ⟨_, _, _, _, _, _, rfl, ab_EN.alloc (s := ()) (B := 0) _ hEL, Blk.new _ _ _⟩
    case body =>
      rintro y pre pst i a' X hfull hI ⟨b, v0, v1, v2, v3, v4, rfl, hEL, hb⟩
      have hi := dn_split hfull
      clear hfull
      obtain ⟨x, post, Dx, dcx, Ex, kx, hI⟩ := hI
      rw [show n - pre.length = i + 1 by omega] at hI
      obtain ⟨p, D', dn', dc', E', m', k', hp, hv, hpv⟩ := EN.rd hEL hI.ls HLN.out
      obtain ⟨rfl, rfl, rfl, rfl, rfl⟩ := valsN_eq hv
      have HPL := Lib.hid hp; have HI := Lib.hid hI; have HB := Lib.hid hb
      have HLP := Lib.hid (HALL.out p (List.mem_of_getElem? hp))
      have HPV := Lib.hid (hpv.up (show z ≤ X.heap.size by have := hI.r0.lt; omega))
      clear hpv hp hv hEL
      obtain ⟨x1, y1, ho⟩ : ∃ x1 y1, outN (passN p x) = (x1, y1) := ⟨_, _, rfl⟩
      obtain ⟨bo, hbo⟩ : ∃ bo, (passN p x).isSome = bo := ⟨_, rfl⟩
      have HO := Lib.hid ho; have HBO := Lib.hid hbo
      clear ho hbo
      have PC := Lib.hid (PassN D' dn' dc' E' m' k' Dx dn dcx Ex m kx p x x1 y1 X bo (by rw [← HPV.out.l]; exact HLP.out.2.1) hm (by rw [← HPV.out.dl]; exact HLP.out.2.2) hd HLP.out.1 hI.lx HPV.out (hI.ng.mono but_lt).nv HO.out HBO.out)
      have x0 := hb.cell 0 rfl; have x1' := hb.cell 1 rfl; have x2 := hb.cell 2 rfl; have x3 := hb.cell 3 rfl; have x4 := hb.cell 4 rfl
      have hbf := hI.bf
      have q0 := hbf.cell 0 (u := .int .i64 x.id.1) rfl; have q1 := hbf.cell 1 (u := .int .i64 x.id.2) rfl; have q2 := hbf.cell 2 (u := .slice Dx dn dcx) rfl; have q3 := hbf.cell 3 (u := strV x.txt) rfl; have q4 := hbf.cell 4 (u := .slice Ex m kx) rfl
      have l0 := hbf.lt
      clear hI hb hbf
      gi_wp2_with fail
      refine ⟨trivial, CallsIn.inRound y (callsIn_wide.2 (PC.out.mono ?_))⟩
      rintro e w2 ⟨D1, d1, c1, E1, m1, k1, D2, d2, c2, E2, m2, k2, rfl, n1, n2, hb2⟩
      clear x0 x1' x2 x3 x4 q0 q1 q2 q3 q4 PC l0
      have hbb := HI.out.bb; have hbf := HI.out.bf; have hr0 := HI.out.r0; have hr1 := HI.out.r1; have hr2 := HI.out.r2
      replace hbb := hbb.below hb2 hbb.lt; replace hbf := hbf.below hb2 hbf.lt; replace hr0 := hr0.below hb2 hr0.lt; replace hr1 := hr1.below hb2 hr1.lt; replace hr2 := hr2.below hb2 hr2.lt
      have HBB := Lib.hid hbb; have HBF := Lib.hid hbf; have HB2 := Lib.hid hb2; have HN1 := Lib.hid n1; have HN2 := Lib.hid n2
      clear n1 n2 hb2
      cases bo with
      | false =>
        have r0 := hr0.cell 0 (u := .int .i64 0) rfl; have r1 := hr0.cell 1 (u := .int .i64 0) rfl; have r2 := hr0.cell 2 (u := .slice none 0 0) rfl; have r3 := hr0.cell 3 (u := .string ⟨#[]⟩) rfl; have r4 := hr0.cell 4 (u := .slice none 0 0) rfl
        have f0 := hr0.frozen 0; have f1 := hr0.frozen 1; have f2 := hr0.frozen 2; have f3 := hr0.frozen 3; have f4 := hr0.frozen 4
        have s0 := hr1.cell 0 (u := .slice none 0 0) rfl; have g0 := hr1.frozen 0
        have t0 := hr2.cell 0 (u := .bool false) rfl; have h0 := hr2.frozen 0
        have hlt0 := hbf.lt; have hlt1 := hr0.lt; have hlt := hr1.lt; have hlt2 := hr2.lt; have hltz := Nat.lt_of_succ_lt hr0.lt
        clear hbb hbf hr0 hr1 hr2
        gi_wp2_with fail
        have HNN : Hid (passN p x = none) := Lib.hid (by
          have h := HBO.out
          cases hp : passN p x with
          | none => rfl
          | some z => rw [hp] at h; cases h)
        clear r0 r1 r2 r3 r4 f0 f1 f2 f3 f4 s0 g0 t0 h0 hlt0 hlt1 hlt hlt2 hltz
        exact over_no HI.out HB2.out HPL.out HNN.out _ _
      | true =>
        clear hbb hbf hr0 hr1 hr2
        have HSM : Hid (passN p x = some (x1, y1)) := Lib.hid (by
          have h := HBO.out; have ho := HO.out
          cases hp : passN p x with
          | none => rw [hp] at h; cases h
          | some z => rw [hp] at ho; exact congrArg some ho)
        obtain ⟨hid, hdp, htx, hll⟩ := (passN_keeps HSM.out).1
        obtain rfl : dn = d1 := by rw [← HN1.out.dl, hdp, HI.out.ng.dl]
        obtain rfl : m = m1 := by rw [← HN1.out.l, hll, HI.out.ng.l]
        clear hid hdp htx hll
        gi_wp2_with fail
        have b3 := (Blk.new w2 28 #[.int .i64 x1.id.1, .int .i64 x1.id.2, .slice D1 dn c1, strV x1.txt, .slice E1 m k1]).alloc (.cells #[.int .i64 y1.id.1, .int .i64 y1.id.2, .slice D2 d2 c2, strV y1.txt, .slice E2 m2 k2] 28)
        have b4 := Blk.new (w2.alloc (.cells #[.int .i64 x1.id.1, .int .i64 x1.id.2, .slice D1 dn c1, strV x1.txt, .slice E1 m k1] 28)) 28 #[.int .i64 y1.id.1, .int .i64 y1.id.2, .slice D2 d2 c2, strV y1.txt, .slice E2 m2 k2]
        have hb4 : Below w2.heap.size w2 ((w2.alloc (.cells #[.int .i64 x1.id.1, .int .i64 x1.id.2, .slice D1 dn c1, strV x1.txt, .slice E1 m k1] 28)).alloc (.cells #[.int .i64 y1.id.1, .int .i64 y1.id.2, .slice D2 d2 c2, strV y1.txt, .slice E2 m2 k2] 28)) := two_box _ _ _
        simp only [World.size_alloc] at b4
        generalize ((w2.alloc (.cells #[.int .i64 x1.id.1, .int .i64 x1.id.2, .slice D1 dn c1, strV x1.txt, .slice E1 m k1] 28)).alloc (.cells #[.int .i64 y1.id.1, .int .i64 y1.id.2, .slice D2 d2 c2, strV y1.txt, .slice E2 m2 k2] 28)) = w4 at b3 b4 hb4 ⊢
        have hw4 := hb4.size
        generalize hz2 : w2.heap.size = z2 at b3 b4 hw4 ⊢
        have hz0 : g + 1 < z2 := by rw [← hz2]; exact HBB.out.lt
        have HB4 := Lib.hid hb4
        have k4 := HBB.out.below hb4 HBB.out.lt; have qb := HBF.out.below hb4 HBF.out.lt
        have HSB : Hid (∀ Y : World, Blk Y (g + 1) 22 #[.slice (some ⟨g, 0, none⟩) n n] → Blk Y z2 28 #[.int .i64 x1.id.1, .int .i64 x1.id.2, .slice D1 dn c1, strV x1.txt, .slice E1 m k1] → Blk Y (z2 + 1) 28 #[.int .i64 y1.id.1, .int .i64 y1.id.2, .slice D2 d2 c2, strV y1.txt, .slice E2 m2 k2] → Y.cell? ⟨g + 1, 0, none⟩ = some (.slice (some ⟨g, 0, none⟩) n n) ∧ Y.cell? ⟨z2, 0, none⟩ = some (.int .i64 x1.id.1) ∧ Y.cell? ⟨z2, 1, none⟩ = some (.int .i64 x1.id.2) ∧ Y.cell? ⟨z2, 2, none⟩ = some (.slice D1 dn c1) ∧ Y.cell? ⟨z2, 3, none⟩ = some (strV x1.txt) ∧ Y.cell? ⟨z2, 4, none⟩ = some (.slice E1 m k1) ∧ Y.cell? ⟨z2 + 1, 0, none⟩ = some (.int .i64 y1.id.1) ∧ Y.cell? ⟨z2 + 1, 1, none⟩ = some (.int .i64 y1.id.2) ∧ Y.cell? ⟨z2 + 1, 2, none⟩ = some (.slice D2 d2 c2) ∧ Y.cell? ⟨z2 + 1, 3, none⟩ = some (strV y1.txt) ∧ Y.cell? ⟨z2 + 1, 4, none⟩ = some (.slice E2 m2 k2)) := Lib.hid (fun Y h1 h2 h3 => ⟨h1.cell 0 rfl, h2.cell 0 rfl, h2.cell 1 rfl, h2.cell 2 rfl, h2.cell 3 rfl, h2.cell 4 rfl, h3.cell 0 rfl, h3.cell 1 rfl, h3.cell 2 rfl, h3.cell 3 rfl, h3.cell 4 rfl⟩)
        have MID := Lib.hid (over_mid (w4 := w4) HI.out HB2.out hb4 HN1.out HN2.out)
        have HK6 := Lib.hid (blk_set5 k4 (g := F) (by omega) (.int .i64 x1.id.1) (.int .i64 x1.id.2) (.slice D1 dn c1) (strV x1.txt) (.slice E1 m k1))
        have HX6 := Lib.hid (blk_set5 b3 (g := F) (by omega) (.int .i64 x1.id.1) (.int .i64 x1.id.2) (.slice D1 dn c1) (strV x1.txt) (.slice E1 m k1))
        have HY6 := Lib.hid (blk_set5 b4 (g := F) (by omega) (.int .i64 x1.id.1) (.int .i64 x1.id.2) (.slice D1 dn c1) (strV x1.txt) (.slice E1 m k1))
        obtain ⟨kk0, e0, e1, e2, e3, e4, yy0, yy1, yy2, yy3, yy4⟩ := HSB.out w4 k4 b3 b4
        have q0 := qb.cell 0 (u := .int .i64 x.id.1) rfl; have q1 := qb.cell 1 (u := .int .i64 x.id.2) rfl; have q2 := qb.cell 2 (u := .slice Dx dn dcx) rfl; have q3 := qb.cell 3 (u := strV x.txt) rfl; have q4 := qb.cell 4 (u := .slice Ex m kx) rfl
        have f0 := qb.frozen 0; have f1 := qb.frozen 1; have f2 := qb.frozen 2; have f3 := qb.frozen 3; have f4 := qb.frozen 4
        have hqlt := qb.lt
        have hin : (i : Int) < (n : Int) := by omega
        clear k4 b3 b4 hb4 qb
        refine round_held (S := fun Y : World => Y.cell? ⟨g + 1, 0, none⟩ = some (.slice (some ⟨g, 0, none⟩) n n) ∧ Y.cell? ⟨z2, 0, none⟩ = some (.int .i64 x1.id.1) ∧ Y.cell? ⟨z2, 1, none⟩ = some (.int .i64 x1.id.2) ∧ Y.cell? ⟨z2, 2, none⟩ = some (.slice D1 dn c1) ∧ Y.cell? ⟨z2, 3, none⟩ = some (strV x1.txt) ∧ Y.cell? ⟨z2, 4, none⟩ = some (.slice E1 m k1) ∧ Y.cell? ⟨z2 + 1, 0, none⟩ = some (.int .i64 y1.id.1) ∧ Y.cell? ⟨z2 + 1, 1, none⟩ = some (.int .i64 y1.id.2) ∧ Y.cell? ⟨z2 + 1, 2, none⟩ = some (.slice D2 d2 c2) ∧ Y.cell? ⟨z2 + 1, 3, none⟩ = some (strV y1.txt) ∧ Y.cell? ⟨z2 + 1, 4, none⟩ = some (.slice E2 m2 k2)) (by kernel_rfl) (by kernel_rfl) ?hq ?hS (fun hS0 => ?_)
        case hq => rintro ⟨_, _, h⟩; exact h
        case hS => exact ⟨kk0, e0, e1, e2, e3, e4, yy0, yy1, yy2, yy3, yy4⟩
        refine wpAnyH_take (i := 0) (v := ?_) rfl (by kernel_rfl) (by kernel_rfl) (by kernel_rfl) (fun _ _ _ h => h) (Or.inl ⟨by rfl, ?_⟩) hS0 ?_
        rotate_left
        · intro Y hY
          obtain ⟨s0, s1, s2, s3, s4, s5, s6, s7, s8, s9, s10⟩ := hY
          go_simp
          try with_reducible rfl
        simp only [Act.put, List.getElem_toArray, List.getElem_cons_succ, List.getElem_cons_zero, List.setIfInBounds_toArray, List.set_cons_succ, List.set_cons_zero]
        refine wpAnyH_take (i := 1) (v := ?_) rfl (by kernel_rfl) (by kernel_rfl) (by kernel_rfl) (fun _ _ _ h => h) (Or.inl ⟨by rfl, ?_⟩) hS0 ?_
        rotate_left
        · intro Y hY
          obtain ⟨s0, s1, s2, s3, s4, s5, s6, s7, s8, s9, s10⟩ := hY
          go_simp
          try with_reducible rfl
        simp only [Act.put, List.getElem_toArray, List.getElem_cons_succ, List.getElem_cons_zero, List.setIfInBounds_toArray, List.set_cons_succ, List.set_cons_zero]
        refine wpAnyH_take (i := 2) (v := ?_) rfl (by kernel_rfl) (by kernel_rfl) (by kernel_rfl) (fun _ _ _ h => h) (Or.inl ⟨by rfl, ?_⟩) hS0 ?_
        rotate_left
        · intro Y hY
          obtain ⟨s0, s1, s2, s3, s4, s5, s6, s7, s8, s9, s10⟩ := hY
          go_simp
          try with_reducible rfl
        simp only [Act.put, List.getElem_toArray, List.getElem_cons_succ, List.getElem_cons_zero, List.setIfInBounds_toArray, List.set_cons_succ, List.set_cons_zero]
        refine wpAnyH_take (i := 3) (v := ?_) rfl (by kernel_rfl) (by kernel_rfl) (by kernel_rfl) (fun _ _ _ h => h) (Or.inl ⟨by rfl, ?_⟩) hS0 ?_
        rotate_left
        · intro Y hY
          obtain ⟨s0, s1, s2, s3, s4, s5, s6, s7, s8, s9, s10⟩ := hY
          go_simp
          try with_reducible rfl
        simp only [Act.put, List.getElem_toArray, List.getElem_cons_succ, List.getElem_cons_zero, List.setIfInBounds_toArray, List.set_cons_succ, List.set_cons_zero]
        refine wpAnyH_ready (rs := [4]) (by kernel_rfl) (by simp) ?_
        refine AllReadyH.cons rfl (fun K1 hK => ?_) AllReadyH.nil
        go_simp
        clear hS0 kk0 e0 e1 e2 e3 e4 yy0 yy1 yy2 yy3 yy4 q0 q1 q2 q3 q4 f0 f1 f2 f3 f4 hqlt
        obtain ⟨a1, a2, a3, a4, a5, a6, a7, a8, a9, a10, a11, a12⟩ := MID.out
        clear MID
        generalize (World.setCell (World.setCell (World.setCell (World.setCell (World.setCell w4 ⟨F, 0, none⟩ (.int .i64 x1.id.1)) ⟨F, 1, none⟩ (.int .i64 x1.id.2)) ⟨F, 2, none⟩ (.slice D1 dn c1)) ⟨F, 3, none⟩ (strV x1.txt)) ⟨F, 4, none⟩ (.slice E1 m k1)) = w6 at *
        refine hK.out _ _ (HSB.out w6.drew (HK6.out.drewN 1) (HX6.out.drewN 1) (HY6.out.drewN 1)) (fun hS1 => ?_)
        clear hK K1
        have hlrow := rep_len HI.out.eq HLN.out (by omega)
        obtain ⟨_, _, _, _, _, _, c0, c1', c2', c3', c4', cf, _⟩ := a1.elem (k := i) (x := noN) hlrow (by rw [List.getElem?_append_left (by simp), List.getElem?_replicate, if_pos (by omega)])
        have f0 := cf (i * 5); have f1 := cf (i * 5 + 1); have f2 := cf (i * 5 + 2); have f3 := cf (i * 5 + 3); have f4 := cf (i * 5 + 4)
        have HF := Lib.hid (over_fin HI.out.pos HI.out.eq HI.out.lx HPL.out HLP.out.1 HLN.out HSM.out a1 a2 a3 a4 a5 a6 a7 a8 a9 a10)
        have HA := Lib.hid (And.intro a11 a12)
        clear a1 a2 a3 a4 a5 a6 a7 a8 a9 a10 a11 a12 cf
        refine wpAnyH_take (i := 5) (v := ?_) rfl (by kernel_rfl) (by kernel_rfl) (by kernel_rfl) (fun _ _ _ h => h) (Or.inl ⟨by rfl, ?_⟩) hS1 ?_
        rotate_left
        · intro Y hY
          obtain ⟨s0, s1, s2, s3, s4, s5, s6, s7, s8, s9, s10⟩ := hY
          go_simp
          try with_reducible rfl
        simp only [Act.put, List.getElem_toArray, List.getElem_cons_succ, List.getElem_cons_zero, List.setIfInBounds_toArray, List.set_cons_succ, List.set_cons_zero]
        refine wpAnyH_ready (rs := [6]) (by kernel_rfl) (by simp) ?_
        refine AllReadyH.cons rfl (fun K1 hK => ?_) AllReadyH.nil
        go_simp
        obtain ⟨t1, t2, t3⟩ := HF.out
        have hk9 := blk_row5 HK6.out (g := g) (by omega) i (.int .i64 y1.id.1) (.int .i64 y1.id.2) (.slice D2 d2 c2) (strV y1.txt) (.slice E2 m2 k2)
        have hx9 := blk_row5 HX6.out (g := g) (by omega) i (.int .i64 y1.id.1) (.int .i64 y1.id.2) (.slice D2 d2 c2) (strV y1.txt) (.slice E2 m2 k2)
        have hy9 := blk_row5 HY6.out (g := g) (by omega) i (.int .i64 y1.id.1) (.int .i64 y1.id.2) (.slice D2 d2 c2) (strV y1.txt) (.slice E2 m2 k2)
        clear HF c0 c1' c2' c3' c4' f0 f1 f2 f3 f4
        generalize (World.setCell (World.setCell (World.setCell (World.setCell (World.setCell w6 ⟨g, i * 5, none⟩ (.int .i64 y1.id.1)) ⟨g, i * 5 + 1, none⟩ (.int .i64 y1.id.2)) ⟨g, i * 5 + 2, none⟩ (.slice D2 d2 c2)) ⟨g, i * 5 + 3, none⟩ (strV y1.txt)) ⟨g, i * 5 + 4, none⟩ (.slice E2 m2 k2)) = w9 at *
        refine hK.out _ _ (HSB.out w9.drew (hk9.drewN 1) (hx9.drewN 1) (hy9.drewN 1)) (fun _ => wpAnyH_done (by kernel_rfl) ?_ _)
        clear hK K1 hS1
        have hj : n - (pre ++ [i]).length = i := by rw [List.length_append, List.length_singleton]; omega
        have hd : Below w9.heap.size w9 w9.drew := below_drewN (Below.refl _ _) 1
        refine ⟨((HA.out.1 _).trans (t2 _)).trans (keepsFrom_below _ hd), ⟨fun v hv => t3 _ v (by omega) (HA.out.2 _ v (by omega) hv), fun _ => cells5_below (cells5_rd t1.ls HLN.out) hd⟩, x1, y1 :: post, D1, c1, E1, k1, ?_⟩
        rw [hj]
        exact t1.mv hd
    case done =>
      rintro E9 W hE hI hK
      obtain ⟨x, post, Dx, dcx, Ex, kx, hI⟩ := hI
      rw [dn_length, Nat.sub_self] at hI
      have hbf := hI.bf; have hbb := hI.bb; have hr0 := hI.r0; have hr1 := hI.r1; have hr2 := hI.r2
      have q0 := hbf.cell 0 (u := .int .i64 x.id.1) rfl; have q1 := hbf.cell 1 (u := .int .i64 x.id.2) rfl; have q2 := hbf.cell 2 (u := .slice Dx dn dcx) rfl; have q3 := hbf.cell 3 (u := strV x.txt) rfl; have q4 := hbf.cell 4 (u := .slice Ex m kx) rfl
      have bb0 := hbb.cell 0 (u := .slice (some ⟨g, 0, none⟩) n n) rfl
      have r0 := hr0.cell 0 (u := .int .i64 0) rfl; have r1 := hr0.cell 1 (u := .int .i64 0) rfl; have r2 := hr0.cell 2 (u := .slice none 0 0) rfl; have r3 := hr0.cell 3 (u := .string ⟨#[]⟩) rfl; have r4 := hr0.cell 4 (u := .slice none 0 0) rfl
      have f0 := hr0.frozen 0; have f1 := hr0.frozen 1; have f2 := hr0.frozen 2; have f3 := hr0.frozen 3; have f4 := hr0.frozen 4
      have s0 := hr1.cell 0 (u := .slice none 0 0) rfl; have g0 := hr1.frozen 0
      have t0 := hr2.cell 0 (u := .bool false) rfl; have h0 := hr2.frozen 0
      have hlt0 := hbf.lt; have hlt1 := hr0.lt; have hlt := hr1.lt; have hlt2 := hr2.lt; have hltz := Nat.lt_of_succ_lt hr0.lt; have hltb := hbb.lt
      have HI := Lib.hid hI
      have HD := Lib.hid (over_done hI (show w.heap.size ≤ E9 by omega) hK)
      clear hI hbf hbb hr0 hr1 hr2
      gi_wp2
      refine wpIn_wide.2 ?_
      have HSB : Hid (∀ Y : World, Blk Y (g + 1) 22 #[.slice (some ⟨g, 0, none⟩) n n] → Blk Y F 28 #[.int .i64 x.id.1, .int .i64 x.id.2, .slice Dx dn dcx, strV x.txt, .slice Ex m kx] → Y.cell? ⟨g + 1, 0, none⟩ = some (.slice (some ⟨g, 0, none⟩) n n) ∧ Y.cell? ⟨F, 0, none⟩ = some (.int .i64 x.id.1) ∧ Y.cell? ⟨F, 1, none⟩ = some (.int .i64 x.id.2) ∧ Y.cell? ⟨F, 2, none⟩ = some (.slice Dx dn dcx) ∧ Y.cell? ⟨F, 3, none⟩ = some (strV x.txt) ∧ Y.cell? ⟨F, 4, none⟩ = some (.slice Ex m kx)) := Lib.hid (fun Y h1 h2 => ⟨h1.cell 0 rfl, h2.cell 0 rfl, h2.cell 1 rfl, h2.cell 2 rfl, h2.cell 3 rfl, h2.cell 4 rfl⟩)
      have HKD := Lib.hid (HSB.out W.drew (HI.out.bb.drewN 1) (HI.out.bf.drewN 1))
      have HKA := Lib.hid (HSB.out (World.setCell (World.setCell (World.setCell (World.setCell (World.setCell W ⟨z + 1, 0, none⟩ (.int .i64 x.id.1)) ⟨z + 1, 1, none⟩ (.int .i64 x.id.2)) ⟨z + 1, 2, none⟩ (.slice Dx dn dcx)) ⟨z + 1, 3, none⟩ (strV x.txt)) ⟨z + 1, 4, none⟩ (.slice Ex m kx)).drew ((blk_set5 HI.out.bb (show g + 1 ≠ z + 1 by omega) (.int .i64 x.id.1) (.int .i64 x.id.2) (.slice Dx dn dcx) (strV x.txt) (.slice Ex m kx)).drewN 1) ((blk_set5 HI.out.bf (show F ≠ z + 1 by omega) (.int .i64 x.id.1) (.int .i64 x.id.2) (.slice Dx dn dcx) (strV x.txt) (.slice Ex m kx)).drewN 1))
      have HKB := Lib.hid (HSB.out (World.setCell (World.setCell (World.setCell (World.setCell (World.setCell (World.setCell W ⟨z + 1, 0, none⟩ (.int .i64 x.id.1)) ⟨z + 1, 1, none⟩ (.int .i64 x.id.2)) ⟨z + 1, 2, none⟩ (.slice Dx dn dcx)) ⟨z + 1, 3, none⟩ (strV x.txt)) ⟨z + 1, 4, none⟩ (.slice Ex m kx)) ⟨z + 1 + 1, 0, none⟩ (.slice (some ⟨g, 0, none⟩) n n)).drew (((blk_set5 HI.out.bb (show g + 1 ≠ z + 1 by omega) (.int .i64 x.id.1) (.int .i64 x.id.2) (.slice Dx dn dcx) (strV x.txt) (.slice Ex m kx)).set_ne (show g + 1 ≠ z + 1 + 1 by omega) 0 (.slice (some ⟨g, 0, none⟩) n n)).drewN 1) (((blk_set5 HI.out.bf (show F ≠ z + 1 by omega) (.int .i64 x.id.1) (.int .i64 x.id.2) (.slice Dx dn dcx) (strV x.txt) (.slice Ex m kx)).set_ne (show F ≠ z + 1 + 1 by omega) 0 (.slice (some ⟨g, 0, none⟩) n n)).drewN 1))
      have HKC := Lib.hid (HSB.out (World.setCell (World.setCell (World.setCell (World.setCell (World.setCell (World.setCell (World.setCell W ⟨z + 1, 0, none⟩ (.int .i64 x.id.1)) ⟨z + 1, 1, none⟩ (.int .i64 x.id.2)) ⟨z + 1, 2, none⟩ (.slice Dx dn dcx)) ⟨z + 1, 3, none⟩ (strV x.txt)) ⟨z + 1, 4, none⟩ (.slice Ex m kx)) ⟨z + 1 + 1, 0, none⟩ (.slice (some ⟨g, 0, none⟩) n n)) ⟨z + 1 + 1 + 1, 0, none⟩ (.bool true)).drew ((((blk_set5 HI.out.bb (show g + 1 ≠ z + 1 by omega) (.int .i64 x.id.1) (.int .i64 x.id.2) (.slice Dx dn dcx) (strV x.txt) (.slice Ex m kx)).set_ne (show g + 1 ≠ z + 1 + 1 by omega) 0 (.slice (some ⟨g, 0, none⟩) n n)).set_ne (show g + 1 ≠ z + 1 + 1 + 1 by omega) 0 (.bool true)).drewN 1) ((((blk_set5 HI.out.bf (show F ≠ z + 1 by omega) (.int .i64 x.id.1) (.int .i64 x.id.2) (.slice Dx dn dcx) (strV x.txt) (.slice Ex m kx)).set_ne (show F ≠ z + 1 + 1 by omega) 0 (.slice (some ⟨g, 0, none⟩) n n)).set_ne (show F ≠ z + 1 + 1 + 1 by omega) 0 (.bool true)).drewN 1))
      go_region_held3 (fun Y => Y.cell? ⟨g + 1, 0, none⟩ = some (.slice (some ⟨g, 0, none⟩) n n) ∧ Y.cell? ⟨F, 0, none⟩ = some (.int .i64 x.id.1) ∧ Y.cell? ⟨F, 1, none⟩ = some (.int .i64 x.id.2) ∧ Y.cell? ⟨F, 2, none⟩ = some (.slice Dx dn dcx) ∧ Y.cell? ⟨F, 3, none⟩ = some (strV x.txt) ∧ Y.cell? ⟨F, 4, none⟩ = some (.slice Ex m kx))
        (first | (with_reducible exact HKD.out) | (with_reducible exact HKA.out) | (with_reducible exact HKB.out) | (with_reducible exact HKC.out))
        (fail)
      have hd := over_done (OvI.mv HI.out (show Below W.heap.size W W.drew from below_drewN (Below.refl _ _) 1)) (show w.heap.size ≤ E9 by omega) hK
      dsimp only [nmC] at hd
      simp only [World.setCell_drew] at hd
      have HD := Lib.hid hd
      clear hd HKD HKA HKB HKC HSB bb0 q0 q1 q2 q3 q4 r0 r1 r2 r3 r4 f0 f1 f2 f3 f4 s0 g0 t0 h0 hlt0 hlt1 hlt hlt2 hltz hltb
      gi_wp2
      obtain ⟨d1, d2, d3, d4, d5, d6, d7⟩ := HD.out
      refine ⟨by simp, .inl ⟨_, _, rfl, run_takeDeferred d1, ?_⟩⟩
      clear d1 hK
      generalize (World.putObj (World.setCell (World.setCell (World.setCell (World.setCell (World.setCell (World.setCell (World.setCell W ⟨z + 1, 0, none⟩ (.int .i64 x.id.1)) ⟨z + 1, 1, none⟩ (.int .i64 x.id.2)) ⟨z + 1, 2, none⟩ (.slice Dx dn dcx)) ⟨z + 1, 3, none⟩ (strV x.txt)) ⟨z + 1, 4, none⟩ (.slice Ex m kx)) ⟨z + 1 + 1, 0, none⟩ (.slice (some ⟨g, 0, none⟩) n n)) ⟨z + 1 + 1 + 1, 0, none⟩ (.bool true)).drew E9 (.deferred none)) = W9 at *
      have u0 := d2.cell 0 (u := .int .i64 x.id.1) rfl; have u1 := d2.cell 1 (u := .int .i64 x.id.2) rfl; have u2 := d2.cell 2 (u := .slice Dx dn dcx) rfl; have u3 := d2.cell 3 (u := strV x.txt) rfl; have u4 := d2.cell 4 (u := .slice Ex m kx) rfl
      have y0 := d3.cell 0 (u := .slice (some ⟨g, 0, none⟩) n n) rfl; have z0 := d4.cell 0 (u := .bool true) rfl
      refine ⟨.tuple #[.agg #[.int .i64 x.id.1, .int .i64 x.id.2, .slice Dx dn dcx, strV x.txt, .slice Ex m kx], .slice (some ⟨g, 0, none⟩) n n, .bool true], by simp [results, Try.results13, go_sem, u0, u1, u2, u3, u4, y0, z0], ?_⟩
      have he := HI.out.eq
      rw [List.drop_zero] at he
      have ho := HO.out; have hs := HS.out
      rw [he] at ho hs
      injection ho with e1 e2
      subst e1 e2 hs
      exact ⟨Dx, dn, dcx, Ex, m, kx, _, rfl, d5, d6, d7⟩
    case stop =>
      rintro E9 c' pre post W hE hpp ⟨rfl, ho, r0, r1, r2, fr⟩ hK
      gi_wp2
      refine ⟨by simp, .inl ⟨_, _, rfl, run_takeDeferred hK, ?_⟩⟩
      obtain ⟨p1, p2, _, _, _⟩ := over_put (show w.heap.size ≤ E9 by omega) hK fr
      have d2 := p2 _ _ _ r0; have d3 := p2 _ _ _ r1; have d4 := p2 _ _ _ r2
      clear hK r0 r1 r2 fr p2
      generalize (World.putObj W E9 (.deferred none)) = W9 at *
      have u0 := d2.cell 0 (u := .int .i64 0) rfl; have u1 := d2.cell 1 (u := .int .i64 0) rfl; have u2 := d2.cell 2 (u := .slice none 0 0) rfl; have u3 := d2.cell 3 (u := .string ⟨#[]⟩) rfl; have u4 := d2.cell 4 (u := .slice none 0 0) rfl
      have y0 := d3.cell 0 (u := .slice none 0 0) rfl; have z0 := d4.cell 0 (u := .bool false) rfl
      refine ⟨.tuple #[.agg #[.int .i64 0, .int .i64 0, .slice none 0 0, .string ⟨#[]⟩, .slice none 0 0], .slice none 0 0, .bool false], by simp [results, Try.results13, go_sem, u0, u1, u2, u3, u4, y0, z0], ?_⟩
      have ho' := HO.out; have hs := HS.out
      rw [ho] at ho' hs
      injection ho' with e1 e2
      subst e1 e2 hs
      exact ⟨none, 0, 0, none, 0, 0, _, rfl, ng_no _ _, ⟨[], World.ownsRow_nil _ _ _ _, fun k x hx => by simp at hx⟩, p1⟩

end Tg
end Go.Proofs.Ytbiiabfhngdeiaa
