/-
  What the document's Table of layer 3 returns for every two lists of lines (walk): what two lists have from each two places on.
-/
import Derived.Test.YtjhjmfodpnipiaaLcWords
set_option maxRecDepth 100000
namespace Go.Proofs.Ytjhjmfodpnipiaa
open Go.RowKit
set_option linter.unusedVariables false
namespace Lc
open Tx Rg

theorem info_ints : (Try.prog.info? 123).map (fun i => (i.zero, i.size, i.bytes)) = some (some (.slice none 0 0), 1, 24) := by kernel_rfl

/-- A row of zeros. -/
def zeroV (m : Nat) : List Value := List.replicate (m + 1) (.int .i64 0)
section
variable {α : Type} [DecidableEq α]
/-- A row on its way: zeros ahead of place k. -/
def partV (a b : List α) (i k : Nat) : List Value := (List.range (b.length + 1)).map fun j => if j < k then .int .i64 0 else .int .i64 ((tab a b i j : Nat) : Int)
theorem partV_length (a b : List α) (i k : Nat) : (partV a b i k).length = b.length + 1 := by simp [partV]
theorem partV_at (a b : List α) (i k : Nat) {j : Nat} (h : j ≤ b.length) : (partV a b i k)[j]? = some (if j < k then .int .i64 0 else .int .i64 ((tab a b i j : Nat) : Int)) := by
  rw [partV, List.getElem?_map, List.getElem?_range (by omega)]; rfl
theorem partV_top (a b : List α) (i : Nat) : partV a b i b.length = zeroV b.length := by
  refine List.ext_getElem? fun j => ?_
  by_cases hj : j ≤ b.length
  · rw [partV_at _ _ _ _ hj, zeroV, List.getElem?_replicate, if_pos (show j < b.length + 1 by omega)]
    by_cases h : j < b.length
    · rw [if_pos h]
    · rw [if_neg h, tab_end_right _ (by omega)]; rfl
  · rw [List.getElem?_eq_none (by rw [partV_length]; omega), List.getElem?_eq_none (by simp [zeroV]; omega)]
theorem partV_zero (a b : List α) (i : Nat) : partV a b i 0 = rowV (a.drop i) b := by
  unfold partV rowV
  refine List.map_congr_left fun j _ => ?_
  rw [if_neg (by omega)]; rfl
theorem partV_set (a b : List α) (i : Nat) {k : Nat} (h : k < b.length) : (partV a b i (k + 1)).set k (.int .i64 ((tab a b i k : Nat) : Int)) = partV a b i k := by
  refine List.ext_getElem? fun j => ?_
  rw [List.getElem?_set]
  by_cases hj : j ≤ b.length
  · rw [partV_at _ _ _ _ hj, partV_at _ _ _ _ hj]
    by_cases e : k = j
    · subst e; rw [if_pos rfl, if_pos (by rw [partV_length]; omega), if_neg (by omega)]
    · rw [if_neg e]
      by_cases hlt : j < k
      · rw [if_pos hlt, if_pos (by omega)]
      · rw [if_neg hlt, if_neg (by omega)]
  · rw [if_neg (by omega), List.getElem?_eq_none (by rw [partV_length]; omega), List.getElem?_eq_none (by rw [partV_length]; omega)]
theorem rowV_end (a b : List α) {i : Nat} (h : a.length ≤ i) : rowV (a.drop i) b = zeroV b.length := by
  rw [List.drop_of_length_le h, rowV_nil]; rfl
end

/-- The value of row i. -/
abbrev refRow (z m i : Nat) : Value := .slice (some ⟨z + 1 + i, 0, none⟩) (m + 1) (m + 1)
abbrev refTab (z n : Nat) : Value := .slice (some ⟨z, 0, none⟩) (n + 1) (n + 1)
/-- The document's table in memory, from block z on: its rows are f 0 to f n. -/
def TabM (z n m : Nat) (f : Nat → List Value) (W : World) : Prop :=
  W.ownsRow z 123 1 (refTab z n) (n + 1) ((List.range (n + 1)).map (refRow z m)) ∧ ∀ i, i ≤ n → W.ownsRow z 3 1 (refRow z m i) (m + 1) (f i)

theorem TabM.top {z n m : Nat} {f : Nat → List Value} {W : World} (h : TabM z n m f W) {i : Nat} (hi : i ≤ n) : W.cell? ⟨z, i, none⟩ = some (refRow z m i) := by
  rw [h.1.cellAt i (by omega), List.getElem?_map, List.getElem?_range (by omega)]; rfl
theorem TabM.at_ {z n m : Nat} {f : Nat → List Value} {W : World} (h : TabM z n m f W) {i j : Nat} (hi : i ≤ n) (hj : j ≤ m) : W.cell? ⟨z + 1 + i, j, none⟩ = (f i)[j]? := (h.2 i hi).cellAt j (by omega)
theorem TabM.fz {z n m : Nat} {f : Nat → List Value} {W : World} (h : TabM z n m f W) {i : Nat} (j : Nat) (hi : i ≤ n) : W.frozen? ⟨z + 1 + i, j, none⟩ = false := (h.2 i hi).frozenAt j
theorem TabM.congr {z n m : Nat} {f f' : Nat → List Value} {W : World} (h : TabM z n m f W) (e : ∀ i, i ≤ n → f i = f' i) : TabM z n m f' W := ⟨h.1, fun i hi => e i hi ▸ h.2 i hi⟩
/-- A store into a row. -/
theorem TabM.set {z n m : Nat} {f f' : Nat → List Value} {W : World} (h : TabM z n m f W) {i j : Nat} (hi : i ≤ n) (u : Value) (e : f' i = (f i).set j u) (e' : ∀ k, k ≤ n → k ≠ i → f' k = f k) :
    TabM z n m f' (W.setCell ⟨z + 1 + i, j, none⟩ u) := by
  obtain ⟨h1, h2⟩ := (h.2 i hi).stored j u
  refine ⟨h.1.kept h2 (.inr (by simp [Value.ownBlock]; omega)), fun k hk => ?_⟩
  by_cases hki : k = i
  · subst hki; rw [e]; exact h1
  · rw [e' k hk hki]; exact (h.2 k hk).kept h2 (.inr (by simp [Value.ownBlock]; omega))

/-- The table after some rows have been made. -/
def TabI (z n m q : Nat) (W : World) : Prop :=
  W.heap.size = z + 1 + q ∧ (∃ tv : List Value, W.ownsRow z 123 1 (refTab z n) (n + 1) tv ∧ ∀ i, i < q → tv[i]? = some (refRow z m i)) ∧ ∀ i, i < q → W.ownsRow z 3 1 (refRow z m i) (m + 1) (zeroV m)
theorem tabI_done {z n m : Nat} {W : World} (h : TabI z n m (n + 1) W) : TabM z n m (fun _ => zeroV m) W := by
  obtain ⟨_, ⟨tv, h1, h2⟩, h3⟩ := h
  have e : tv = (List.range (n + 1)).map (refRow z m) := by
    refine List.ext_getElem? fun i => ?_
    by_cases hi : i < n + 1
    · rw [h2 i hi, List.getElem?_map, List.getElem?_range hi]; rfl
    · rw [List.getElem?_eq_none (by have := h1.1; omega), List.getElem?_eq_none (by simp; omega)]
  exact ⟨e ▸ h1, fun i hi => h3 i (by omega)⟩
theorem tabI_next {z n m q : Nat} {W : World} {cz : Array Value} (h : TabI z n m q W) (hq : q ≤ n) (hm : m ≤ 1000) (hcz : cz.toList = zeroV m) : TabI z n m (q + 1) ((W.alloc (.cells cz 3)).setCell ⟨z, q, none⟩ (.slice (some ⟨W.heap.size, 0, none⟩) (m + 1) (m + 1))) := by
  obtain ⟨hs, ⟨tv, h1, h2⟩, h3⟩ := h
  have hl : cz.size = m + 1 := by rw [← Array.length_toList, hcz]; simp [zeroV]
  have hn := World.ownsRow_lit (base := z) (e := 3) (size := 1) W cz (m + 1) (by omega) (by unfold maxLen; omega) (by omega)
  obtain ⟨h4, h5⟩ := (h1.alloc (.cells cz 3)).stored q (.slice (some ⟨W.heap.size, 0, none⟩) (m + 1) (m + 1))
  rw [hcz] at hn
  refine ⟨by rw [World.size_setCell, World.size_alloc]; omega, ⟨_, h4, fun i hi => ?_⟩, fun i hi => ?_⟩
  · rw [List.getElem?_set]
    by_cases e : q = i
    · subst e; rw [if_pos rfl, if_pos (by have := h1.1; omega)]; rw [hs]
    · rw [if_neg e]; exact h2 i (by omega)
  · by_cases e : i = q
    · subst e
      unfold refRow
      rw [← hs]
      exact hn.kept h5 (.inr (by simp [Value.ownBlock]; omega))
    · exact ((h3 i (by omega)).alloc _).kept h5 (.inr (by simp [Value.ownBlock]; omega))

/-- How Table ends. -/
def TableEnd (w : World) (n m : Nat) (a b : List (List UInt8)) (e : Ending) (w' : World) : Prop :=
  e = .returned (refTab w.heap.size n) ∧ TabM w.heap.size n m (fun i => rowV (a.drop i) b) w' ∧ Below w.heap.size w w'

/-- The rows when those from place k on are over, and, of row k - 1, the places from j on. -/
def fillV (a b : List (List UInt8)) (m k : Nat) (i : Nat) : List Value := if i < k then zeroV m else rowV (a.drop i) b
def fillV' (a b : List (List UInt8)) (m k j : Nat) (i : Nat) : List Value := if i < k then zeroV m else if i = k then partV a b i j else rowV (a.drop i) b

theorem fill_start {a b : List (List UInt8)} {n m : Nat} (hn : a.length = n) (hm : b.length = m) : ∀ i, i ≤ n → (fun _ : Nat => zeroV m) i = fillV a b m n i := by
  intro i hi
  unfold fillV
  by_cases h : i < n
  · rw [if_pos h]
  · rw [if_neg h, rowV_end _ _ (by omega), hm]
theorem fill_row {a b : List (List UInt8)} {n m k : Nat} (hm : b.length = m) : ∀ i, i ≤ n → fillV a b m (k + 1) i = fillV' a b m k m i := by
  intro i hi
  unfold fillV fillV'
  by_cases h : i < k
  · rw [if_pos h, if_pos (by omega)]
  · rw [if_neg h]
    by_cases e : i = k
    · rw [if_pos e, if_pos (by omega), ← hm, partV_top]
    · rw [if_neg e, if_neg (by omega)]
theorem fill_end {a b : List (List UInt8)} {n m k : Nat} : ∀ i, i ≤ n → fillV' a b m k 0 i = fillV a b m k i := by
  intro i hi
  unfold fillV fillV'
  by_cases h : i < k
  · rw [if_pos h, if_pos h]
  · rw [if_neg h, if_neg h]
    by_cases e : i = k
    · rw [if_pos e, partV_zero]
    · rw [if_neg e]
theorem fill_done {a b : List (List UInt8)} {n m : Nat} : ∀ i, i ≤ n → fillV a b m 0 i = rowV (a.drop i) b := by
  intro i hi
  unfold fillV
  rw [if_neg (by omega)]
theorem fill_next {a b : List (List UInt8)} {z n m k j : Nat} {W : World} (h : TabM z n m (fillV' a b m k (j + 1)) W) (hk : k ≤ n) (hm : b.length = m) (hj : j < m) {q : Int} (hq : q = ((tab a b k j : Nat) : Int)) : TabM z n m (fillV' a b m k j) (W.setCell ⟨z + 1 + k, j, none⟩ (.int .i64 q)) := by
  subst hq
  refine h.set hk _ ?_ fun i hi hne => ?_
  · unfold fillV'
    rw [if_neg (Nat.lt_irrefl _), if_pos rfl, if_neg (Nat.lt_irrefl _), if_pos rfl, partV_set _ _ _ (by omega)]
  · unfold fillV'
    rw [if_neg hne, if_neg hne]

theorem made_nil (n : Nat) : ∀ i, i < n → (madeCells #[Value.slice none 0 0] n)[i]? = some (.slice none 0 0) := by
  intro i hi; simp [madeCells, hi, Nat.mod_one]

set_option maxRecDepth 100000 in
set_option maxHeartbeats 4000000 in
theorem refTable (A A' : Option Addr) (c c' n m B : Nat) (a b : List (List UInt8)) (w : World) (hn : a.length = n) (hm : b.length = m) (hln : n ≤ 1000) (hlm : m ≤ 1000) (hB : B ≤ w.heap.size) (hR : RdS w B A a) (hR' : RdS w B A' b) :
    Calls Try.prog 100 #[.slice A n c, .slice A' m c'] w (TableEnd w n m a b) := by
  obtain ⟨j0, hj, hy0, hy1, hy2⟩ := info_parts info_ints
  obtain ⟨k0, hk, hz0, hz1, hz2⟩ := info_parts info_int
  have HM := Lib.hid hm; clear hm
  have HN := Lib.hid hn; clear hn
  have hmk : ∀ W : World, (Instr.makeSlice 121 (.int .i64 ((n : Int) + 1)) (.int .i64 ((n : Int) + 1))).run Try.prog W = .ok (.slice (some ⟨W.heap.size, 0, none⟩) (n + 1) (n + 1)) (W.alloc (.cells (madeCells #[.slice none 0 0] (n + 1)) 123)) := by
    intro W
    have := run_makeSlice (P := Try.prog) W 121 123 j0 (.slice none 0 0) Try.underlying121 hj hy0 .i64 .i64 ((n : Int) + 1) ((n : Int) + 1) (by omega) (by omega) (by rw [hy1]; omega) (by rw [hy2]; omega) (by omega)
    rw [hy1, Nat.mul_one, show ((n : Int) + 1).toNat = n + 1 by omega] at this
    exact this
  have hmk2 : ∀ W : World, (Instr.makeSlice 123 (.int .i64 ((m : Int) + 1)) (.int .i64 ((m : Int) + 1))).run Try.prog W = .ok (.slice (some ⟨W.heap.size, 0, none⟩) (m + 1) (m + 1)) (W.alloc (.cells (madeCells (Value.int .i64 0).cells (m + 1)) 3)) := by
    intro W
    have := run_makeSlice (P := Try.prog) W 123 3 k0 (.int .i64 0) Try.underlying123 hk hz0 .i64 .i64 ((m : Int) + 1) ((m : Int) + 1) (by omega) (by omega) (by rw [hz1]; omega) (by rw [hz2]; omega) (by omega)
    rw [hz1, Nat.mul_one, show ((m : Int) + 1).toNat = m + 1 by omega] at this
    exact this
  have hcz := made_zero (m + 1)
  generalize madeCells (Value.int .i64 0).cells (m + 1) = cz at *
  have HCZ : Hid (cz.toList = zeroV m) := Lib.hid hcz
  clear hcz
  have hlen := size_madeCells #[Value.slice none 0 0] (n + 1)
  generalize madeCells #[Value.slice none 0 0] (n + 1) = tz at *
  have HTZ := Lib.hid hlen; clear hlen
  go_enter Try.func100, Try.ntmps100
  go_wp2
  go_loopw [6] (fun i wr => ∃ q : Nat, q ≤ n + 1 ∧ i = .int .i64 (q : Int) ∧ TabI w.heap.size n m q wr ∧ Below w.heap.size w wr) (fun i _ => n + 1 - (intOf i).toNat)
  case atStart =>
    refine ⟨0, Nat.zero_le _, rfl, ⟨by simp, ⟨tz.toList, World.ownsRow_lit w tz (n + 1) (Nat.le_refl _) (by unfold maxLen; omega) (by rw [HTZ.out]; omega), fun i hi => by omega⟩, fun i hi => by omega⟩, (Below.refl _ _).alloc (Nat.le_refl _) _⟩
  case round =>
    obtain ⟨q, hq, rfl, hI, hbr⟩ := hrel
    by_cases hqn : q ≤ n
    · obtain ⟨hs, ⟨tv, h1, h2⟩, h3⟩ := id hI
      have HI := Lib.hid (tabI_next hI hqn hlm HCZ.out)
      obtain ⟨old, hold⟩ : ∃ old, tv[q]? = some old := ⟨_, List.getElem?_eq_getElem (by have := h1.1; omega)⟩
      have hc := fun o => ((h1.alloc o).cellAt q (by omega)).trans hold
      have hf := fun o => (h1.alloc o).frozenAt q
      have hsz : w.heap.size ≤ wr.heap.size := by omega
      have hqi : (q : Int) ≤ (n : Int) := by omega
      clear hI hs h2 h3 hold
      go_wp2
      go_roundw
      case rel => exact ⟨q + 1, by omega, by go_num, HI.out, (hbr.alloc hsz _).setCell (p := ⟨w.heap.size, q, none⟩) (Nat.le_refl _) _⟩
      case measure => simp [intOf]; omega
    · obtain rfl : q = n + 1 := by omega
      have hT0 := tabI_done hI
      have hgt : ¬ ((n + 1 : Nat) : Int) ≤ (n : Int) := by omega
      clear hI hqn hmk hmk2
      go_wp2
      go_loopw [7] (fun i wr => ∃ k : Nat, k ≤ n ∧ i = .int .i64 ((k : Int) - 1) ∧ TabM w.heap.size n m (fillV a b m k) wr ∧ Below w.heap.size w wr) (fun i _ => (intOf i + 1).toNat)
      case atStart => exact ⟨n, Nat.le_refl _, rfl, hT0.congr (fill_start HN.out HM.out), hbr⟩
      case round =>
        clear hT0 hbr hgt
        obtain ⟨k, hk, rfl, hT, hb⟩ := hrel
        cases k with
        | zero =>
          have e : (((0 : Nat) : Int) - 1) = -1 := rfl
          rw [e]; clear e
          go_wp2
          go_ret
          exact ⟨rfl, hT.congr fill_done, hb⟩
        | succ k =>
          have e : (((k + 1 : Nat) : Int) - 1) = (k : Int) := by omega
          rw [e]; clear e
          go_wp2
          go_loopw [8] (fun jv wr => ∃ j : Nat, j ≤ m ∧ jv = .int .i64 ((j : Int) - 1) ∧ TabM w.heap.size n m (fillV' a b m k j) wr ∧ Below w.heap.size w wr) (fun jv _ => (intOf jv + 1).toNat)
          case atStart => exact ⟨m, Nat.le_refl _, rfl, hT.congr (fill_row HM.out), hb⟩
          case round =>
            clear hT hb
            obtain ⟨j, hj, rfl, hT, hb⟩ := hrel
            cases j with
            | zero =>
              have e : (((0 : Nat) : Int) - 1) = -1 := rfl
              rw [e]; clear e
              go_wp2
              go_roundw
              case rel => exact ⟨k, by omega, rfl, hT.congr fill_end, hb⟩
              case measure => simp [intOf]
            | succ j =>
              have e : (((j + 1 : Nat) : Int) - 1) = (j : Int) := by omega
              rw [e]; clear e
              have hka : k < a.length := by rw [HN.out]; omega
              have hjb : j < b.length := by rw [HM.out]; omega
              have hb0 : Below B w wr := hb.mono hB
              obtain ⟨pa, rfl, hca⟩ := RdS.at' (hR.below hb0) hka
              obtain ⟨pb, rfl, hcb⟩ := RdS.at' (hR'.below hb0) hjb
              have hrk : fillV' a b m k (j + 1) k = partV a b k (j + 1) := by unfold fillV'; rw [if_neg (Nat.lt_irrefl _), if_pos rfl]
              have hrk1 : fillV' a b m k (j + 1) (k + 1) = rowV (a.drop (k + 1)) b := by unfold fillV'; rw [if_neg (by omega), if_neg (by omega)]
              have t0 := hT.top (i := k) (by omega)
              have t1 := hT.top (i := k + 1) (by omega)
              have x0 := hT.at_ (i := k) (j := j) (by omega) (by omega)
              have x1 := hT.at_ (i := k) (j := j + 1) (by omega) (by omega)
              have y0 := hT.at_ (i := k + 1) (j := j) (by omega) (by omega)
              have y1 := hT.at_ (i := k + 1) (j := j + 1) (by omega) (by omega)
              have fz := hT.fz (i := k) j (by omega)
              rw [hrk, partV_at _ _ _ _ (by omega)] at x0 x1
              rw [hrk1, rowV_at _ _ (by omega)] at y0 y1
              rw [if_pos (by omega)] at x0
              rw [if_neg (by omega)] at x1
              change _ = some (Value.int .i64 ((tab a b (k + 1) j : Nat) : Int)) at y0
              change _ = some (Value.int .i64 ((tab a b (k + 1) (j + 1) : Nat) : Int)) at y1
              have HT := Lib.hid (fun (q : Int) (hq : q = ((tab a b k j : Nat) : Int)) (d : Nat) => fill_next (W := wr.drewN d) hT (by omega) HM.out (by omega) hq)
              have u1 := (tab_le a b (k + 1) (j + 1)).2
              have u2 := (tab_le a b (k + 1) j).2
              have u3 := (tab_le a b k (j + 1)).2
              rw [HM.out] at u1 u2 u3
              clear hT hrk hrk1
              obtain ⟨r0, hr0⟩ : ∃ r0, w.heap.size + 1 + k = r0 := ⟨_, rfl⟩
              obtain ⟨r1, hr1⟩ : ∃ r1, w.heap.size + 1 + (k + 1) = r1 := ⟨_, rfl⟩
              unfold refRow at t0 t1
              rw [hr0] at t0 x0 x1 fz HT
              rw [hr1] at t1 y0 y1
              have HB : ∀ (q : Value) (d : Nat), Below w.heap.size w ((wr.drewN d).setCell ⟨r0, j, none⟩ q) := fun q d => (below_drewN hb d).setCell (p := ⟨r0, j, none⟩) (by show w.heap.size ≤ r0; omega) q
              have HBB := Lib.hid HB; clear HB hr0 hr1
              have n1 : (k : Int) < (n : Int) := by omega
              have n2 : (j : Int) < (m : Int) := by omega
              have n3 : (k : Int) + 1 < (n : Int) + 1 := by omega
              have n4 : (j : Int) + 1 < (m : Int) + 1 := by omega
              have n5 : (k : Int) < (n : Int) + 1 := by omega
              have n6 : (j : Int) < (m : Int) + 1 := by omega
              have n7 : ((k : Int) + 1).toNat = k + 1 := by omega
              have n8 : ((j : Int) + 1).toNat = j + 1 := by omega
              have n9 : (0 : Int) ≤ (k : Int) + 1 := by omega
              have n10 : (0 : Int) ≤ (j : Int) + 1 := by omega
              have n11 : IntKind.i64.wrap ((k : Int) + 1) = (k : Int) + 1 := IntWalk.i64_in _ (by omega)
              have n12 : IntKind.i64.wrap ((j : Int) + 1) = (j : Int) + 1 := IntWalk.i64_in _ (by omega)
              by_cases hxy : a[k] = b[j]
              · have HV := Lib.hid (tab_same hka hjb hxy)
                have hbe : (a[k] == b[j]) = true := by simpa using hxy
                generalize a[k] = x at *
                generalize b[j] = y at *
                generalize tab a b (k + 1) (j + 1) = q1 at *
                generalize tab a b (k + 1) j = q2 at *
                generalize tab a b k (j + 1) = q3 at *
                have n13 : IntKind.i64.wrap ((q1 : Int) + 1) = (q1 : Int) + 1 := IntWalk.i64_in _ (by omega)
                clear hxy
                go_wp2
                go_quiet (fail)
                have s0 : (wr.drewN nq).cell? ⟨w.heap.size, k, none⟩ = _ := t0
                have s1 : (wr.drewN nq).cell? ⟨w.heap.size, k + 1, none⟩ = _ := t1
                have s2 : (wr.drewN nq).cell? ⟨r0, j, none⟩ = _ := x0
                have s3 : (wr.drewN nq).cell? ⟨r0, j + 1, none⟩ = _ := x1
                have s4 : (wr.drewN nq).cell? ⟨r1, j, none⟩ = _ := y0
                have s5 : (wr.drewN nq).cell? ⟨r1, j + 1, none⟩ = _ := y1
                have s6 : (wr.drewN nq).frozen? ⟨r0, j, none⟩ = _ := fz
                clear t0 t1 x0 x1 y0 y1 fz hca hcb
                generalize hwq : wr.drewN nq = wq at *
                have HWQ := Lib.hid hwq; clear hwq
                go_wp2
                go_still_tail 16, (by kernel_rfl)
                clear n1 n2 n3 n4 n5 n6 n7 n8 n9 n10 n11 n12 n13
                change wpList _ _ _ _ _ wq.drew
                go_wp2
                have e1 := HT.out ((q1 : Int) + 1) (by rw [HV.out]; simp) nq
                have e2 := (HBB.out (.int .i64 ((q1 : Int) + 1)) nq).drew
                rw [HWQ.out] at e1 e2
                go_roundw
                case rel => exact ⟨j, by omega, rfl, e1, e2⟩
                case measure => simp [intOf]
              · have HV := Lib.hid (tab_ne hka hjb hxy)
                have hbe : (a[k] == b[j]) = false := by simpa using hxy
                generalize a[k] = x at *
                generalize b[j] = y at *
                generalize tab a b (k + 1) (j + 1) = q1 at *
                generalize tab a b (k + 1) j = q2 at *
                generalize tab a b k (j + 1) = q3 at *
                clear hxy
                by_cases hge : q3 ≤ q2
                · have hd : decide (q3 ≤ q2) = true := by simpa using hge
                  have hv : tab a b k j = q2 := by rw [HV.out, if_pos hge]
                  have HW := Lib.hid hv; clear hv
                  go_wp2
                  go_quiet (fail)
                  go_wp2
                  refine wp_region_quiet_lit (by kernel_rfl) (by kernel_rfl) ?_
                  repeat (go_big_quiet_step (fail))
                  refine wpQuiet_nil ?_
                  intro _ hw'
                  obtain ⟨nq2, hw''⟩ := hw'
                  subst hw''
                  rw [World.drewN_drewN]
                  have s0 : (wr.drewN (nq + nq2)).cell? ⟨w.heap.size, k, none⟩ = _ := t0
                  have s1 : (wr.drewN (nq + nq2)).cell? ⟨w.heap.size, k + 1, none⟩ = _ := t1
                  have s2 : (wr.drewN (nq + nq2)).cell? ⟨r0, j, none⟩ = _ := x0
                  have s3 : (wr.drewN (nq + nq2)).cell? ⟨r0, j + 1, none⟩ = _ := x1
                  have s4 : (wr.drewN (nq + nq2)).cell? ⟨r1, j, none⟩ = _ := y0
                  have s5 : (wr.drewN (nq + nq2)).cell? ⟨r1, j + 1, none⟩ = _ := y1
                  have s6 : (wr.drewN (nq + nq2)).frozen? ⟨r0, j, none⟩ = _ := fz
                  clear t0 t1 x0 x1 y0 y1 fz hca hcb
                  generalize hwq : wr.drewN (nq + nq2) = wq at *
                  have HWQ := Lib.hid hwq; clear hwq
                  go_wp2
                  go_still_tail 14, (by kernel_rfl)
                  clear n1 n2 n3 n4 n5 n6 n7 n8 n9 n10 n11 n12
                  change wpList _ _ _ _ _ wq.drew
                  go_wp2
                  have e1 := HT.out (q2 : Int) (by rw [HW.out]) (nq + nq2)
                  have e2 := (HBB.out (.int .i64 (q2 : Int)) (nq + nq2)).drew
                  rw [HWQ.out] at e1 e2
                  go_roundw
                  case rel => exact ⟨j, by omega, rfl, e1, e2⟩
                  case measure => simp [intOf]
                · have hd : decide (q3 ≤ q2) = false := by simpa using hge
                  have hv : tab a b k j = q3 := by rw [HV.out, if_neg hge]
                  have HW := Lib.hid hv; clear hv
                  go_wp2
                  go_quiet (fail)
                  go_wp2
                  refine wp_region_quiet_lit (by kernel_rfl) (by kernel_rfl) ?_
                  repeat (go_big_quiet_step (fail))
                  refine wpQuiet_nil ?_
                  intro _ hw'
                  obtain ⟨nq2, hw''⟩ := hw'
                  subst hw''
                  rw [World.drewN_drewN]
                  have s0 : (wr.drewN (nq + nq2)).cell? ⟨w.heap.size, k, none⟩ = _ := t0
                  have s1 : (wr.drewN (nq + nq2)).cell? ⟨w.heap.size, k + 1, none⟩ = _ := t1
                  have s2 : (wr.drewN (nq + nq2)).cell? ⟨r0, j, none⟩ = _ := x0
                  have s3 : (wr.drewN (nq + nq2)).cell? ⟨r0, j + 1, none⟩ = _ := x1
                  have s4 : (wr.drewN (nq + nq2)).cell? ⟨r1, j, none⟩ = _ := y0
                  have s5 : (wr.drewN (nq + nq2)).cell? ⟨r1, j + 1, none⟩ = _ := y1
                  have s6 : (wr.drewN (nq + nq2)).frozen? ⟨r0, j, none⟩ = _ := fz
                  clear t0 t1 x0 x1 y0 y1 fz hca hcb
                  generalize hwq : wr.drewN (nq + nq2) = wq at *
                  have HWQ := Lib.hid hwq; clear hwq
                  go_wp2
                  go_still_tail 14, (by kernel_rfl)
                  clear n1 n2 n3 n4 n5 n6 n7 n8 n9 n10 n11 n12
                  change wpList _ _ _ _ _ wq.drew
                  go_wp2
                  have e1 := HT.out (q3 : Int) (by rw [HW.out]) (nq + nq2)
                  have e2 := (HBB.out (.int .i64 (q3 : Int)) (nq + nq2)).drew
                  rw [HWQ.out] at e1 e2
                  go_roundw
                  case rel => exact ⟨j, by omega, rfl, e1, e2⟩
                  case measure => simp [intOf]

end Lc
end Go.Proofs.Ytjhjmfodpnipiaa
