/-
  What package code's head returns: the words of a change's own line (walk). Written by tools/cd_mkhead.py.
-/
import Derived.Test.YtjhjmfodpnipiaaGreatDoorCdLeaf
import Derived.Test.YtjhjmfodpnipiaaGreatDoorGR
import Derived.Test.YtjhjmfodpnipiaaGreatDoorGQ
import Derived.Deep.RegionHeld3
import Derived.Deep.AppendLies
set_option maxRecDepth 100000
namespace Go.Proofs.YtjhjmfodpnipiaaGreatDoor
open Go.RowKit
set_option linter.unusedVariables false
set_option linter.unusedSimpArgs false
namespace Cd
open Tx Df Sq Hk Tr Pr

/-- How head ends. -/
def HeadEnd (w : World) (n : Nat) (ws : List (List UInt8)) (e : Ending) (w' : World) : Prop := ∃ v, e = .returned v ∧ w'.ownsRow w.heap.size 9 1 v n (ws.map strV) ∧ Below w.heap.size w w'

theorem own_gr_below {W W' : World} {base e n : Nat} {v : Value} {xs : List Value} (h : W.ownsRow base e 1 v n xs) (hb : Below W.heap.size W W') : W'.ownsRow base e 1 v n xs := own_gr h (below_gr_row hb)
set_option maxHeartbeats 4000000 in
theorem head_0 (nm tn : List UInt8) (q : Int) (A : Option Addr) (n c : Nat) (A' : Option Addr) (n' c' : Nat) (w : World) (hv : Vars w) :
    Calls Tryz.prog 41 #[prV 0 nm tn q A n c A' n' c'] w (HeadEnd w 2 [[43], nm]) := by
  have HV := Lib.hid hv; clear hv
  go_enter Tryz.func41, Tryz.ntmps41
  go_upto_region 1 with fail
  have b0 := Blk.new w 34 #[.int .i64 0, strV nm, strV tn, .int .i64 q, .slice A n c, .slice A' n' c']
  have hb : Below w.heap.size w (w.alloc (.cells #[.int .i64 0, strV nm, strV tn, .int .i64 q, .slice A n c, .slice A' n' c'] 34)) := (Below.refl _ _).alloc (Nat.le_refl _) _
  generalize w.alloc (.cells #[.int .i64 0, strV nm, strV tn, .int .i64 q, .slice A n c, .slice A' n' c'] 34) = W at b0 hb ⊢
  obtain ⟨g, hg⟩ : ∃ g, w.heap.size = g := ⟨_, rfl⟩
  have HG := Lib.hid hg
  rw [hg] at b0 hb ⊢
  clear hg
  have x0 : W.cell? ⟨g, 0, none⟩ = some (.int .i64 0) := b0.cell 0 rfl
  have x1 : W.cell? ⟨g, 1, none⟩ = some (strV nm) := b0.cell 1 rfl
  have HB := Lib.hid hb; have HBX := Lib.hid b0
  clear b0 hb
  go_region
  clear x0 x1
  have es : (ByteArray.mk #[43, 45, 62, 64, 61]).extract 0 1 = ByteArray.mk #[43] := by decide
  rw [es]
  clear es
  have hgs : g ≤ W.heap.size := by have h1 := HBX.out.lt; omega
  have ho : ((W.alloc (.cells #[.string (ByteArray.mk #[43]), strV nm] 9)).drew).ownsRow g 9 1 (.slice (some ⟨W.heap.size, 0, none⟩) 2 2) 2 ([[43], nm].map strV) := World.ownsRow_lit W #[.string (ByteArray.mk #[43]), strV nm] 2 hgs (by decide) rfl
  have hb2 : Below g w ((W.alloc (.cells #[.string (ByteArray.mk #[43]), strV nm] 9)).drew) := below_drewN (HB.out.alloc (by omega) _) 1
  have bx := (HBX.out.alloc (.cells #[.string (ByteArray.mk #[43]), strV nm] 9)).drewN 1
  have HVX : Hid (Vars (W.alloc (.cells #[.string (ByteArray.mk #[43]), strV nm] 9)).drew) := Lib.hid (HV.out.mv (by rw [HG.out]; exact hb2))
  have hne : some g ≠ (Value.slice (some (⟨W.heap.size, 0, none⟩ : Addr)) 2 2).ownBlock := fun e => by
    have e1 : g = W.heap.size := by injection e
    have h1 := HBX.out.lt
    omega
  change Blk ((W.alloc (.cells #[.string (ByteArray.mk #[43]), strV nm] 9)).drew) g _ _ at bx
  generalize (W.alloc (.cells #[.string (ByteArray.mk #[43]), strV nm] 9)).drew = X at ho hb2 bx HVX ⊢
  generalize W.heap.size = z at ho hne ⊢
  have y0 : X.cell? ⟨g, 0, none⟩ = some (.int .i64 0) := bx.cell 0 rfl
  clear HB HBX hgs W
  have HO := Lib.hid ho; have HB := Lib.hid hb2
  clear ho hb2 bx hne
  go_wp2
  go_ret
  exact ⟨_, rfl, by rw [HG.out]; exact HO.out, by rw [HG.out]; exact HB.out⟩

set_option maxHeartbeats 4000000 in
theorem head_1 (nm tn : List UInt8) (q : Int) (A : Option Addr) (n c : Nat) (A' : Option Addr) (n' c' : Nat) (w : World) (hv : Vars w) :
    Calls Tryz.prog 41 #[prV 1 nm tn q A n c A' n' c'] w (HeadEnd w 2 [[45], nm]) := by
  have HV := Lib.hid hv; clear hv
  go_enter Tryz.func41, Tryz.ntmps41
  go_upto_region 1 with fail
  have b0 := Blk.new w 34 #[.int .i64 1, strV nm, strV tn, .int .i64 q, .slice A n c, .slice A' n' c']
  have hb : Below w.heap.size w (w.alloc (.cells #[.int .i64 1, strV nm, strV tn, .int .i64 q, .slice A n c, .slice A' n' c'] 34)) := (Below.refl _ _).alloc (Nat.le_refl _) _
  generalize w.alloc (.cells #[.int .i64 1, strV nm, strV tn, .int .i64 q, .slice A n c, .slice A' n' c'] 34) = W at b0 hb ⊢
  obtain ⟨g, hg⟩ : ∃ g, w.heap.size = g := ⟨_, rfl⟩
  have HG := Lib.hid hg
  rw [hg] at b0 hb ⊢
  clear hg
  have x0 : W.cell? ⟨g, 0, none⟩ = some (.int .i64 1) := b0.cell 0 rfl
  have x1 : W.cell? ⟨g, 1, none⟩ = some (strV nm) := b0.cell 1 rfl
  have HB := Lib.hid hb; have HBX := Lib.hid b0
  clear b0 hb
  go_region
  clear x0 x1
  have es : (ByteArray.mk #[43, 45, 62, 64, 61]).extract 1 2 = ByteArray.mk #[45] := by decide
  rw [es]
  clear es
  have hgs : g ≤ W.heap.size := by have h1 := HBX.out.lt; omega
  have ho : ((W.alloc (.cells #[.string (ByteArray.mk #[45]), strV nm] 9)).drew).ownsRow g 9 1 (.slice (some ⟨W.heap.size, 0, none⟩) 2 2) 2 ([[45], nm].map strV) := World.ownsRow_lit W #[.string (ByteArray.mk #[45]), strV nm] 2 hgs (by decide) rfl
  have hb2 : Below g w ((W.alloc (.cells #[.string (ByteArray.mk #[45]), strV nm] 9)).drew) := below_drewN (HB.out.alloc (by omega) _) 1
  have bx := (HBX.out.alloc (.cells #[.string (ByteArray.mk #[45]), strV nm] 9)).drewN 1
  have HVX : Hid (Vars (W.alloc (.cells #[.string (ByteArray.mk #[45]), strV nm] 9)).drew) := Lib.hid (HV.out.mv (by rw [HG.out]; exact hb2))
  have hne : some g ≠ (Value.slice (some (⟨W.heap.size, 0, none⟩ : Addr)) 2 2).ownBlock := fun e => by
    have e1 : g = W.heap.size := by injection e
    have h1 := HBX.out.lt
    omega
  change Blk ((W.alloc (.cells #[.string (ByteArray.mk #[45]), strV nm] 9)).drew) g _ _ at bx
  generalize (W.alloc (.cells #[.string (ByteArray.mk #[45]), strV nm] 9)).drew = X at ho hb2 bx HVX ⊢
  generalize W.heap.size = z at ho hne ⊢
  have y0 : X.cell? ⟨g, 0, none⟩ = some (.int .i64 1) := bx.cell 0 rfl
  clear HB HBX hgs W
  have HO := Lib.hid ho; have HB := Lib.hid hb2
  clear ho hb2 bx hne
  go_wp2
  go_ret
  exact ⟨_, rfl, by rw [HG.out]; exact HO.out, by rw [HG.out]; exact HB.out⟩

set_option maxHeartbeats 4000000 in
theorem head_2 (nm tn : List UInt8) (q : Int) (A : Option Addr) (n c : Nat) (A' : Option Addr) (n' c' : Nat) (w : World) (hv : Vars w) :
    Calls Tryz.prog 41 #[prV 2 nm tn q A n c A' n' c'] w (HeadEnd w 3 [[62], nm, tn]) := by
  obtain ⟨j0, hj, hy0, hy1, hy2⟩ := info_parts info_str
  have HV := Lib.hid hv; clear hv
  go_enter Tryz.func41, Tryz.ntmps41
  go_upto_region 1 with fail
  have b0 := Blk.new w 34 #[.int .i64 2, strV nm, strV tn, .int .i64 q, .slice A n c, .slice A' n' c']
  have hb : Below w.heap.size w (w.alloc (.cells #[.int .i64 2, strV nm, strV tn, .int .i64 q, .slice A n c, .slice A' n' c'] 34)) := (Below.refl _ _).alloc (Nat.le_refl _) _
  generalize w.alloc (.cells #[.int .i64 2, strV nm, strV tn, .int .i64 q, .slice A n c, .slice A' n' c'] 34) = W at b0 hb ⊢
  obtain ⟨g, hg⟩ : ∃ g, w.heap.size = g := ⟨_, rfl⟩
  have HG := Lib.hid hg
  rw [hg] at b0 hb ⊢
  clear hg
  have x0 : W.cell? ⟨g, 0, none⟩ = some (.int .i64 2) := b0.cell 0 rfl
  have x1 : W.cell? ⟨g, 1, none⟩ = some (strV nm) := b0.cell 1 rfl
  have HB := Lib.hid hb; have HBX := Lib.hid b0
  clear b0 hb
  go_region
  clear x0 x1
  have es : (ByteArray.mk #[43, 45, 62, 64, 61]).extract 2 3 = ByteArray.mk #[62] := by decide
  rw [es]
  clear es
  have hgs : g ≤ W.heap.size := by have h1 := HBX.out.lt; omega
  have ho : ((W.alloc (.cells #[.string (ByteArray.mk #[62]), strV nm] 9)).drew).ownsRow g 9 1 (.slice (some ⟨W.heap.size, 0, none⟩) 2 2) 2 ([[62], nm].map strV) := World.ownsRow_lit W #[.string (ByteArray.mk #[62]), strV nm] 2 hgs (by decide) rfl
  have hb2 : Below g w ((W.alloc (.cells #[.string (ByteArray.mk #[62]), strV nm] 9)).drew) := below_drewN (HB.out.alloc (by omega) _) 1
  have bx := (HBX.out.alloc (.cells #[.string (ByteArray.mk #[62]), strV nm] 9)).drewN 1
  have HVX : Hid (Vars (W.alloc (.cells #[.string (ByteArray.mk #[62]), strV nm] 9)).drew) := Lib.hid (HV.out.mv (by rw [HG.out]; exact hb2))
  have hne : some g ≠ (Value.slice (some (⟨W.heap.size, 0, none⟩ : Addr)) 2 2).ownBlock := fun e => by
    have e1 : g = W.heap.size := by injection e
    have h1 := HBX.out.lt
    omega
  change Blk ((W.alloc (.cells #[.string (ByteArray.mk #[62]), strV nm] 9)).drew) g _ _ at bx
  generalize (W.alloc (.cells #[.string (ByteArray.mk #[62]), strV nm] 9)).drew = X at ho hb2 bx HVX ⊢
  generalize W.heap.size = z at ho hne ⊢
  have y0 : X.cell? ⟨g, 0, none⟩ = some (.int .i64 2) := bx.cell 0 rfl
  clear HB HBX hgs W
  have x2 : X.cell? ⟨g, 2, none⟩ = some (strV tn) := bx.cell 2 rfl
  have hgx : g ≤ X.heap.size := by have h1 := bx.lt; omega
  have HO := Lib.hid ho; have HB := Lib.hid hb2
  clear ho hb2 hne bx
  go_wp2_with (at_builtin; refine wpList_append_own _ rfl _ _ 30 rfl g 9 j0 (.string ⟨#[]⟩) 1 16 Tryz.underlying30 hj hy0 hy1 hy2 rfl (by decide) _ _ _ rfl (own_gr HO.out (World.grownBy_alloc X _ none)) ⟨X.heap.size, 0, none⟩ 1 1 [strV tn] rfl rfl (cell_one_new _ _ _) (by simp [Value.oneCell']) (by unfold maxLen; omega) (by omega) (by simp; omega) ?_; intro v2 w2 hown2 hgrow2 _)
  have HB2 := Lib.hid ((HB.out.alloc hgx (.cells #[strV tn] 9)).grown hgrow2 (by simp; omega) (fun k hk => own_ge HO.out k hk))
  have HO2 := Lib.hid hown2
  clear hown2 hgrow2 hgx x2
  go_wp2
  go_ret
  exact ⟨_, rfl, by rw [HG.out]; exact HO2.out, by rw [HG.out]; exact HB2.out⟩

set_option maxHeartbeats 4000000 in
theorem head_3 (nm tn : List UInt8) (q : Int) (A : Option Addr) (n c : Nat) (A' : Option Addr) (n' c' : Nat) (w : World) (hv : Vars w) (hq : I64 q) (hn : n ≤ 1000) (hn' : n' ≤ 1000) :
    Calls Tryz.prog 41 #[prV 3 nm tn q A n c A' n' c'] w (HeadEnd w 5 [[64], nm, numI q, numI n, numI n']) := by
  obtain ⟨j0, hj, hy0, hy1, hy2⟩ := info_parts info_str
  have HV := Lib.hid hv; clear hv
  go_enter Tryz.func41, Tryz.ntmps41
  go_upto_region 1 with fail
  have b0 := Blk.new w 34 #[.int .i64 3, strV nm, strV tn, .int .i64 q, .slice A n c, .slice A' n' c']
  have hb : Below w.heap.size w (w.alloc (.cells #[.int .i64 3, strV nm, strV tn, .int .i64 q, .slice A n c, .slice A' n' c'] 34)) := (Below.refl _ _).alloc (Nat.le_refl _) _
  generalize w.alloc (.cells #[.int .i64 3, strV nm, strV tn, .int .i64 q, .slice A n c, .slice A' n' c'] 34) = W at b0 hb ⊢
  obtain ⟨g, hg⟩ : ∃ g, w.heap.size = g := ⟨_, rfl⟩
  have HG := Lib.hid hg
  rw [hg] at b0 hb ⊢
  clear hg
  have x0 : W.cell? ⟨g, 0, none⟩ = some (.int .i64 3) := b0.cell 0 rfl
  have x1 : W.cell? ⟨g, 1, none⟩ = some (strV nm) := b0.cell 1 rfl
  have HB := Lib.hid hb; have HBX := Lib.hid b0
  clear b0 hb
  go_region
  clear x0 x1
  have es : (ByteArray.mk #[43, 45, 62, 64, 61]).extract 3 4 = ByteArray.mk #[64] := by decide
  rw [es]
  clear es
  have hgs : g ≤ W.heap.size := by have h1 := HBX.out.lt; omega
  have ho : ((W.alloc (.cells #[.string (ByteArray.mk #[64]), strV nm] 9)).drew).ownsRow g 9 1 (.slice (some ⟨W.heap.size, 0, none⟩) 2 2) 2 ([[64], nm].map strV) := World.ownsRow_lit W #[.string (ByteArray.mk #[64]), strV nm] 2 hgs (by decide) rfl
  have hb2 : Below g w ((W.alloc (.cells #[.string (ByteArray.mk #[64]), strV nm] 9)).drew) := below_drewN (HB.out.alloc (by omega) _) 1
  have bx := (HBX.out.alloc (.cells #[.string (ByteArray.mk #[64]), strV nm] 9)).drewN 1
  have HVX : Hid (Vars (W.alloc (.cells #[.string (ByteArray.mk #[64]), strV nm] 9)).drew) := Lib.hid (HV.out.mv (by rw [HG.out]; exact hb2))
  have hne : some g ≠ (Value.slice (some (⟨W.heap.size, 0, none⟩ : Addr)) 2 2).ownBlock := fun e => by
    have e1 : g = W.heap.size := by injection e
    have h1 := HBX.out.lt
    omega
  change Blk ((W.alloc (.cells #[.string (ByteArray.mk #[64]), strV nm] 9)).drew) g _ _ at bx
  generalize (W.alloc (.cells #[.string (ByteArray.mk #[64]), strV nm] 9)).drew = X at ho hb2 bx HVX ⊢
  generalize W.heap.size = z at ho hne ⊢
  have y0 : X.cell? ⟨g, 0, none⟩ = some (.int .i64 3) := bx.cell 0 rfl
  clear HB HBX hgs W
  have HO := Lib.hid ho; have HB := Lib.hid hb2; have HX := Lib.hid bx; have HNE := Lib.hid hne
  have hgx : g < X.heap.size := bx.lt
  have x3 : X.cell? ⟨g, 3, none⟩ = some (.int .i64 q) := bx.cell 3 rfl
  have x4 : X.cell? ⟨g, 4, none⟩ = some (.slice A n c) := bx.cell 4 rfl
  have x5 : X.cell? ⟨g, 5, none⟩ = some (.slice A' n' c') := bx.cell 5 rfl
  have HC : Hid (∀ Y, Below X.heap.size X Y → Y.cell? ⟨g, 3, none⟩ = some (.int .i64 q) ∧ Y.cell? ⟨g, 4, none⟩ = some (.slice A n c) ∧ Y.cell? ⟨g, 5, none⟩ = some (.slice A' n' c')) := Lib.hid (fun Y hb => ⟨(HX.out.below hb HX.out.lt).cell 3 rfl, (HX.out.below hb HX.out.lt).cell 4 rfl, (HX.out.below hb HX.out.lt).cell 5 rfl⟩)
  have HN1 : Hid (∀ Y, Below X.heap.size X Y → Calls Tryz.prog 10 #[.int .i64 q] Y fun e u => e = .returned (strV (numI q)) ∧ Below Y.heap.size Y u) := Lib.hid (fun Y hb => Number q hq Y (HVX.out.mv hb))
  have HN2 : Hid (∀ Y, Below X.heap.size X Y → Calls Tryz.prog 10 #[.int .i64 (n : Int)] Y fun e u => e = .returned (strV (numI n)) ∧ Below Y.heap.size Y u) := Lib.hid (fun Y hb => Number n (by constructor <;> omega) Y (HVX.out.mv hb))
  have HN3 : Hid (∀ Y, Below X.heap.size X Y → Calls Tryz.prog 10 #[.int .i64 (n' : Int)] Y fun e u => e = .returned (strV (numI n')) ∧ Below Y.heap.size Y u) := Lib.hid (fun Y hb => Number n' (by constructor <;> omega) Y (HVX.out.mv hb))
  have HGL : Hid (∀ Y o, Below X.heap.size X Y → g ≤ (World.alloc Y o).heap.size) := Lib.hid (fun Y o hb => by have h1 := hb.size; simp; omega)
  have HKA0 : Hid (∀ (Y : World), Below X.heap.size X Y → ∀ (o : Obj), (Y.alloc o).cell? ⟨g, 3, none⟩ = some (.int .i64 q) ∧ (Y.alloc o).cell? ⟨g, 4, none⟩ = some (.slice A n c) ∧ (Y.alloc o).cell? ⟨g, 5, none⟩ = some (.slice A' n' c')) := Lib.hid (fun Y hb o => HC.out _ (hb.alloc hb.size o))
  have HOA0 : Hid (∀ (Y : World), Below X.heap.size X Y → (Y.alloc (.cells #[strV (numI q), strV (numI n), strV (numI n')] 9)).ownsRow g 9 1 (.slice (some ⟨z, 0, none⟩) 2 2) 2 ([[64], nm].map strV)) := Lib.hid (fun Y hb => own_gr (own_gr_below HO.out hb) (World.grownBy_alloc Y _ none))
  have HWA0 : Hid (∀ (Y : World) (j : Nat) (u : Value), [strV (numI q), strV (numI n), strV (numI n')][j]? = some u → (Y.alloc (.cells #[strV (numI q), strV (numI n), strV (numI n')] 9)).cell? ((⟨Y.heap.size, 0, none⟩ : Addr).add j) = some u) := Lib.hid (fun Y => World.news_of_block (World.alloc_heap_new Y _))
  have HONE : Hid (∀ u ∈ [strV (numI q), strV (numI n), strV (numI n')], u.oneCell' = true) := Lib.hid (by simp [Value.oneCell'])
  have HM1 : Hid (2 + 3 ≤ maxLen) := Lib.hid (by decide)
  have HM2 : Hid ((2 + 3) * 16 ≤ 140737488355328) := Lib.hid (by decide)
  have HKD := Lib.hid (HC.out X.drew (below_drewN (Below.refl _ _) 1))
  clear ho hb2 hne bx hq hn hn'
  go_upto_region 7 with fail
  go_region_held3 (fun Y => Y.cell? ⟨g, 3, none⟩ = some (.int .i64 q) ∧ Y.cell? ⟨g, 4, none⟩ = some (.slice A n c) ∧ Y.cell? ⟨g, 5, none⟩ = some (.slice A' n' c'))
    (first | (with_reducible exact HKD.out) | (with_reducible exact hS1) | (with_reducible exact hS2) | (with_reducible exact hS3) | (with_reducible exact HKA.out _) | (with_reducible exact HKB.out))
    (first
      | (go_at_call 10; (with_reducible refine (HN1.out X.drew (below_drewN (Below.refl _ _) 1)).mono ?_); rintro e w1 ⟨rfl, hb1⟩; have hu1 : Below X.heap.size X w1 := (below_drewN (Below.refl X.heap.size X) 1).trans hb1; have HU1 := Lib.hid hu1; have hS1 := HC.out w1 hu1; clear hb1 hu1)
      | (go_at_call 10; (with_reducible refine (HN2.out w1 HU1.out).mono ?_); rintro e w2 ⟨rfl, hb2⟩; have hu2 : Below X.heap.size X w2 := HU1.out.trans (hb2.mono HU1.out.size); have HU2 := Lib.hid hu2; have hS2 := HC.out w2 hu2; clear hb2 hu2)
      | (go_at_call 10; (with_reducible refine (HN3.out w2 HU2.out).mono ?_); rintro e w3 ⟨rfl, hb3⟩; have hu3 : Below X.heap.size X w3 := HU2.out.trans (hb3.mono HU2.out.size); have HU3 := Lib.hid hu3; have hS3 := HC.out w3 hu3;
          have HKA := Lib.hid (HKA0.out w3 HU3.out); have HOA := Lib.hid (HOA0.out w3 HU3.out); have HZA := Lib.hid (HGL.out w3 (.cells #[strV (numI q), strV (numI n), strV (numI n')] 9) HU3.out); have HWA := Lib.hid (HWA0.out w3);
          clear hb3 hu3)
      | (refine step_append_lies (o := ⟨some 41, _, _, _, _, _⟩) (hgd := rfl) (s := .tmp 25) (x := .tmp 40) (t := 30) (ho := rfl) (base := g) (e := 9) (i := j0) (z := .string ⟨#[]⟩) (size := 1) (bytes := 16) (ht := Tryz.underlying30) (hi := hj) (hz := hy0) (hsize := hy1) (hby := hy2) (hzs := rfl) (hsz := Nat.one_pos) (v := .slice (some ⟨z, 0, none⟩) 2 2) (n := 2) (hs := rfl) (hown := HOA.out) (ad := ⟨w3.heap.size, 0, none⟩) (m := 3) (c := 3) (news := [strV (numI q), strV (numI n), strV (numI n')]) (hx := rfl) (hl := rfl) (hnews := HWA.out) (h1 := HONE.out) (hm := Nat.succ_pos 2) (h63 := HM1.out) (hbytes := HM2.out) (hbase := HZA.out) (xs := _) (H := _) (hH := rfl) (h := ?_); intro gx cx u hox hgx2 hlx hltx; have HOX := Lib.hid hox; have HGX := Lib.hid hgx2; have HKB := Lib.hid (And.intro (cell_gr hgx2 HNE.out (HKA.out _).1) (And.intro (cell_gr hgx2 HNE.out (HKA.out _).2.1) (cell_gr hgx2 HNE.out (HKA.out _).2.2))); clear hox hgx2 hlx hltx))
  have HBU := Lib.hid (((((HB.out.trans (HU3.out.mono (Nat.le_of_lt hgx))).alloc (Nat.le_trans (Nat.le_of_lt hgx) HU3.out.size) (.cells #[strV (numI q), strV (numI n), strV (numI n')] 9))).grown HGX.out HZA.out (fun k hk => own_ge HOA.out k hk)))
  clear x3 x4 x5 hS1 hS2 hS3 hgx y0
  go_wp2
  go_ret
  exact ⟨_, rfl, by rw [HG.out]; exact HOX.out, by rw [HG.out]; exact HBU.out⟩

set_option maxHeartbeats 4000000 in
theorem head_4 (nm tn : List UInt8) (q : Int) (A : Option Addr) (n c : Nat) (A' : Option Addr) (n' c' : Nat) (w : World) (hv : Vars w) (hq : I64 q) (hn : n ≤ 1000) (hn' : n' ≤ 1000) :
    Calls Tryz.prog 41 #[prV 4 nm tn q A n c A' n' c'] w (HeadEnd w 5 [[61], nm, numI q, numI n, numI n']) := by
  obtain ⟨j0, hj, hy0, hy1, hy2⟩ := info_parts info_str
  have HV := Lib.hid hv; clear hv
  go_enter Tryz.func41, Tryz.ntmps41
  go_upto_region 1 with fail
  have b0 := Blk.new w 34 #[.int .i64 4, strV nm, strV tn, .int .i64 q, .slice A n c, .slice A' n' c']
  have hb : Below w.heap.size w (w.alloc (.cells #[.int .i64 4, strV nm, strV tn, .int .i64 q, .slice A n c, .slice A' n' c'] 34)) := (Below.refl _ _).alloc (Nat.le_refl _) _
  generalize w.alloc (.cells #[.int .i64 4, strV nm, strV tn, .int .i64 q, .slice A n c, .slice A' n' c'] 34) = W at b0 hb ⊢
  obtain ⟨g, hg⟩ : ∃ g, w.heap.size = g := ⟨_, rfl⟩
  have HG := Lib.hid hg
  rw [hg] at b0 hb ⊢
  clear hg
  have x0 : W.cell? ⟨g, 0, none⟩ = some (.int .i64 4) := b0.cell 0 rfl
  have x1 : W.cell? ⟨g, 1, none⟩ = some (strV nm) := b0.cell 1 rfl
  have HB := Lib.hid hb; have HBX := Lib.hid b0
  clear b0 hb
  go_region
  clear x0 x1
  have es : (ByteArray.mk #[43, 45, 62, 64, 61]).extract 4 5 = ByteArray.mk #[61] := by decide
  rw [es]
  clear es
  have hgs : g ≤ W.heap.size := by have h1 := HBX.out.lt; omega
  have ho : ((W.alloc (.cells #[.string (ByteArray.mk #[61]), strV nm] 9)).drew).ownsRow g 9 1 (.slice (some ⟨W.heap.size, 0, none⟩) 2 2) 2 ([[61], nm].map strV) := World.ownsRow_lit W #[.string (ByteArray.mk #[61]), strV nm] 2 hgs (by decide) rfl
  have hb2 : Below g w ((W.alloc (.cells #[.string (ByteArray.mk #[61]), strV nm] 9)).drew) := below_drewN (HB.out.alloc (by omega) _) 1
  have bx := (HBX.out.alloc (.cells #[.string (ByteArray.mk #[61]), strV nm] 9)).drewN 1
  have HVX : Hid (Vars (W.alloc (.cells #[.string (ByteArray.mk #[61]), strV nm] 9)).drew) := Lib.hid (HV.out.mv (by rw [HG.out]; exact hb2))
  have hne : some g ≠ (Value.slice (some (⟨W.heap.size, 0, none⟩ : Addr)) 2 2).ownBlock := fun e => by
    have e1 : g = W.heap.size := by injection e
    have h1 := HBX.out.lt
    omega
  change Blk ((W.alloc (.cells #[.string (ByteArray.mk #[61]), strV nm] 9)).drew) g _ _ at bx
  generalize (W.alloc (.cells #[.string (ByteArray.mk #[61]), strV nm] 9)).drew = X at ho hb2 bx HVX ⊢
  generalize W.heap.size = z at ho hne ⊢
  have y0 : X.cell? ⟨g, 0, none⟩ = some (.int .i64 4) := bx.cell 0 rfl
  clear HB HBX hgs W
  have HO := Lib.hid ho; have HB := Lib.hid hb2; have HX := Lib.hid bx; have HNE := Lib.hid hne
  have hgx : g < X.heap.size := bx.lt
  have x3 : X.cell? ⟨g, 3, none⟩ = some (.int .i64 q) := bx.cell 3 rfl
  have x4 : X.cell? ⟨g, 4, none⟩ = some (.slice A n c) := bx.cell 4 rfl
  have x5 : X.cell? ⟨g, 5, none⟩ = some (.slice A' n' c') := bx.cell 5 rfl
  have HC : Hid (∀ Y, Below X.heap.size X Y → Y.cell? ⟨g, 3, none⟩ = some (.int .i64 q) ∧ Y.cell? ⟨g, 4, none⟩ = some (.slice A n c) ∧ Y.cell? ⟨g, 5, none⟩ = some (.slice A' n' c')) := Lib.hid (fun Y hb => ⟨(HX.out.below hb HX.out.lt).cell 3 rfl, (HX.out.below hb HX.out.lt).cell 4 rfl, (HX.out.below hb HX.out.lt).cell 5 rfl⟩)
  have HN1 : Hid (∀ Y, Below X.heap.size X Y → Calls Tryz.prog 10 #[.int .i64 q] Y fun e u => e = .returned (strV (numI q)) ∧ Below Y.heap.size Y u) := Lib.hid (fun Y hb => Number q hq Y (HVX.out.mv hb))
  have HN2 : Hid (∀ Y, Below X.heap.size X Y → Calls Tryz.prog 10 #[.int .i64 (n : Int)] Y fun e u => e = .returned (strV (numI n)) ∧ Below Y.heap.size Y u) := Lib.hid (fun Y hb => Number n (by constructor <;> omega) Y (HVX.out.mv hb))
  have HN3 : Hid (∀ Y, Below X.heap.size X Y → Calls Tryz.prog 10 #[.int .i64 (n' : Int)] Y fun e u => e = .returned (strV (numI n')) ∧ Below Y.heap.size Y u) := Lib.hid (fun Y hb => Number n' (by constructor <;> omega) Y (HVX.out.mv hb))
  have HGL : Hid (∀ Y o, Below X.heap.size X Y → g ≤ (World.alloc Y o).heap.size) := Lib.hid (fun Y o hb => by have h1 := hb.size; simp; omega)
  have HKA0 : Hid (∀ (Y : World), Below X.heap.size X Y → ∀ (o : Obj), (Y.alloc o).cell? ⟨g, 3, none⟩ = some (.int .i64 q) ∧ (Y.alloc o).cell? ⟨g, 4, none⟩ = some (.slice A n c) ∧ (Y.alloc o).cell? ⟨g, 5, none⟩ = some (.slice A' n' c')) := Lib.hid (fun Y hb o => HC.out _ (hb.alloc hb.size o))
  have HOA0 : Hid (∀ (Y : World), Below X.heap.size X Y → (Y.alloc (.cells #[strV (numI q), strV (numI n), strV (numI n')] 9)).ownsRow g 9 1 (.slice (some ⟨z, 0, none⟩) 2 2) 2 ([[61], nm].map strV)) := Lib.hid (fun Y hb => own_gr (own_gr_below HO.out hb) (World.grownBy_alloc Y _ none))
  have HWA0 : Hid (∀ (Y : World) (j : Nat) (u : Value), [strV (numI q), strV (numI n), strV (numI n')][j]? = some u → (Y.alloc (.cells #[strV (numI q), strV (numI n), strV (numI n')] 9)).cell? ((⟨Y.heap.size, 0, none⟩ : Addr).add j) = some u) := Lib.hid (fun Y => World.news_of_block (World.alloc_heap_new Y _))
  have HONE : Hid (∀ u ∈ [strV (numI q), strV (numI n), strV (numI n')], u.oneCell' = true) := Lib.hid (by simp [Value.oneCell'])
  have HM1 : Hid (2 + 3 ≤ maxLen) := Lib.hid (by decide)
  have HM2 : Hid ((2 + 3) * 16 ≤ 140737488355328) := Lib.hid (by decide)
  have HKD := Lib.hid (HC.out X.drew (below_drewN (Below.refl _ _) 1))
  clear ho hb2 hne bx hq hn hn'
  go_upto_region 7 with fail
  go_region_held3 (fun Y => Y.cell? ⟨g, 3, none⟩ = some (.int .i64 q) ∧ Y.cell? ⟨g, 4, none⟩ = some (.slice A n c) ∧ Y.cell? ⟨g, 5, none⟩ = some (.slice A' n' c'))
    (first | (with_reducible exact HKD.out) | (with_reducible exact hS1) | (with_reducible exact hS2) | (with_reducible exact hS3) | (with_reducible exact HKA.out _) | (with_reducible exact HKB.out))
    (first
      | (go_at_call 10; (with_reducible refine (HN1.out X.drew (below_drewN (Below.refl _ _) 1)).mono ?_); rintro e w1 ⟨rfl, hb1⟩; have hu1 : Below X.heap.size X w1 := (below_drewN (Below.refl X.heap.size X) 1).trans hb1; have HU1 := Lib.hid hu1; have hS1 := HC.out w1 hu1; clear hb1 hu1)
      | (go_at_call 10; (with_reducible refine (HN2.out w1 HU1.out).mono ?_); rintro e w2 ⟨rfl, hb2⟩; have hu2 : Below X.heap.size X w2 := HU1.out.trans (hb2.mono HU1.out.size); have HU2 := Lib.hid hu2; have hS2 := HC.out w2 hu2; clear hb2 hu2)
      | (go_at_call 10; (with_reducible refine (HN3.out w2 HU2.out).mono ?_); rintro e w3 ⟨rfl, hb3⟩; have hu3 : Below X.heap.size X w3 := HU2.out.trans (hb3.mono HU2.out.size); have HU3 := Lib.hid hu3; have hS3 := HC.out w3 hu3;
          have HKA := Lib.hid (HKA0.out w3 HU3.out); have HOA := Lib.hid (HOA0.out w3 HU3.out); have HZA := Lib.hid (HGL.out w3 (.cells #[strV (numI q), strV (numI n), strV (numI n')] 9) HU3.out); have HWA := Lib.hid (HWA0.out w3);
          clear hb3 hu3)
      | (refine step_append_lies (o := ⟨some 41, _, _, _, _, _⟩) (hgd := rfl) (s := .tmp 25) (x := .tmp 40) (t := 30) (ho := rfl) (base := g) (e := 9) (i := j0) (z := .string ⟨#[]⟩) (size := 1) (bytes := 16) (ht := Tryz.underlying30) (hi := hj) (hz := hy0) (hsize := hy1) (hby := hy2) (hzs := rfl) (hsz := Nat.one_pos) (v := .slice (some ⟨z, 0, none⟩) 2 2) (n := 2) (hs := rfl) (hown := HOA.out) (ad := ⟨w3.heap.size, 0, none⟩) (m := 3) (c := 3) (news := [strV (numI q), strV (numI n), strV (numI n')]) (hx := rfl) (hl := rfl) (hnews := HWA.out) (h1 := HONE.out) (hm := Nat.succ_pos 2) (h63 := HM1.out) (hbytes := HM2.out) (hbase := HZA.out) (xs := _) (H := _) (hH := rfl) (h := ?_); intro gx cx u hox hgx2 hlx hltx; have HOX := Lib.hid hox; have HGX := Lib.hid hgx2; have HKB := Lib.hid (And.intro (cell_gr hgx2 HNE.out (HKA.out _).1) (And.intro (cell_gr hgx2 HNE.out (HKA.out _).2.1) (cell_gr hgx2 HNE.out (HKA.out _).2.2))); clear hox hgx2 hlx hltx))
  have HBU := Lib.hid (((((HB.out.trans (HU3.out.mono (Nat.le_of_lt hgx))).alloc (Nat.le_trans (Nat.le_of_lt hgx) HU3.out.size) (.cells #[strV (numI q), strV (numI n), strV (numI n')] 9))).grown HGX.out HZA.out (fun k hk => own_ge HOA.out k hk)))
  clear x3 x4 x5 hS1 hS2 hS3 hgx y0
  go_wp2
  go_ret
  exact ⟨_, rfl, by rw [HG.out]; exact HOX.out, by rw [HG.out]; exact HBU.out⟩

end Cd
end Go.Proofs.YtjhjmfodpnipiaaGreatDoor
