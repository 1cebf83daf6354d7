/-
  Words and contracts, joined: PrMay PrTurn TrIns TrDel GU PrApply GV PsGrow FlRef QRange FlKeep TgMem BmPlain BmMem BmRefP BmRef BmRefPut BmRefOne.
-/
import Derived.BigQuiet
import Derived.Deep.RegionHeld3
import Derived.Deep.Cut
import Derived.Laws.EntriesVeiled
import Derived.Lib.AppendZerosOnto
import Derived.Laws.NewBlocks
import Derived.Deep.RegionLaw
import Derived.Deep.AppendLies
import Derived.RangeFuncNested
import Derived.RangeFuncCalls
import Derived.RangeFuncLeaves
import Derived.RangeFuncBox
import Derived.Deep.Quiet
import Derived.StillTail
import Derived.Deep.RegionHeld
import Derived.OrdersIn
import Derived.TacticsIn
import Derived.Test.YtfnhjflocfmcoaaGreatBT1
set_option maxRecDepth 100000
namespace Go.Proofs.YtfnhjflocfmcoaaGreat
open Go.RowKit
set_option linter.unusedVariables false
set_option linter.unusedSimpArgs false
namespace Pr
open Tx Df Sq Hk Tr

theorem NameB (x : List UInt8) (w : World) (b : Bool) (hx : x.length ≤ maxLen) (hb : name x = b) : Calls Tryz.prog 70 #[strV x] w fun e w' => e = .returned (.bool b) ∧ w = w' := by
  have := Name ⟨x.toArray⟩ w (by rw [size_strV]; exact hx)
  rw [← hb]
  simpa using this

/-- The box of a change with methods. -/
abbrev boxC (w : World) (k : Int) (nm to : List UInt8) (q : Int) (A : Option Addr) (n c : Nat) (A' : Option Addr) (n' c' : Nat) : World := w.alloc (.cells #[.int .i64 k, strV nm, strV to, .int .i64 q, .slice A n c, .slice A' n' c'] 105)
theorem below_box1 (w : World) (o : Obj) : Below w.heap.size w (w.alloc o) := (Below.refl _ _).alloc (Nat.le_refl _) _
theorem hv_mv {w w' : World} {A A' : Option Addr} {n c n' c' : Nat} {h : HU} (v : HV w w.heap.size A n c A' n' c' h) (hb : Below w.heap.size w w') : HV w' w'.heap.size A n c A' n' c' h := (v.below hb).up hb.size
theorem hv_none (w : World) (B : Nat) : HV w B none 0 0 none 0 0 noneH := ⟨rfl, rfl, Nat.le_refl _, Nat.le_refl _, Nat.zero_le _, Nat.zero_le _, .inl rfl, .inl rfl, by unfold I64; decide⟩
theorem sameH_none (h : HU) : sameH h noneH = noH h := by
  rw [Bool.eq_iff_iff, noH_iff]
  constructor
  · intro hs
    cases h
    simp only [sameH, noneH, Bool.and_eq_true] at hs ⊢
    obtain ⟨h1, h2, h3⟩ := hs
    obtain rfl := of_decide_eq_true h1
    obtain rfl := of_decide_eq_true h2
    obtain rfl := of_decide_eq_true h3
    rfl
  · rintro rfl
    decide
theorem below_via {w0 w w' : World} (h : Below w0.heap.size w0 w) (hb : Below w.heap.size w w') : Below w0.heap.size w0 w' := h.trans (hb.mono h.size)

set_option maxHeartbeats 1000000 in
theorem noHunk (A : Option Addr) (n c : Nat) (A' : Option Addr) (n' c' : Nat) (k : Int) (nm to : List UInt8) (q : Int) (h : HU) (w : World) (b : Bool) (hq : h.pos = q) (hv : HV w w.heap.size A n c A' n' c' h) (hb : noH h = b) :
    Calls Tryz.prog 120 #[prV k nm to q A n c A' n' c'] w (TestEnd w b) := by
  have hbx := below_box1 w (.cells #[.int .i64 k, strV nm, strV to, .int .i64 q, .slice A n c, .slice A' n' c'] 105)
  have h3 := SameH A n c A' n' c' none 0 0 none 0 0 (boxC w k nm to q A n c A' n' c').heap.size h noneH (boxC w k nm to q A n c A' n' c') (Nat.le_refl _) (hv_mv hv hbx) (hv_none _ _)
  rw [sameH_none, hb, hq] at h3
  have H3 := Lib.hid h3; have HBX := Lib.hid hbx
  clear h3 hbx hv hb hq
  go_enter Tryz.func120, Tryz.ntmps120
  go_wp2_with fail
  refine H3.out.mono ?_
  rintro e w1 ⟨rfl, hb1⟩
  have HB1 := Lib.hid (below_via HBX.out hb1)
  clear hb1
  go_wp2
  go_ret
  exact ⟨rfl, HB1.out⟩

set_option maxHeartbeats 1000000 in
theorem namesOne (A : Option Addr) (n c : Nat) (A' : Option Addr) (n' c' : Nat) (k : Int) (nm to : List UInt8) (q : Int) (h : HU) (w : World) (b : Bool) (hq : h.pos = q) (hv : HV w w.heap.size A n c A' n' c' h) (hb : (decide (to = []) && noH h) = b) :
    Calls Tryz.prog 99 #[prV k nm to q A n c A' n' c'] w (TestEnd w b) := by
  have hbx := below_box1 w (.cells #[.int .i64 k, strV nm, strV to, .int .i64 q, .slice A n c, .slice A' n' c'] 105)
  obtain ⟨bo, hbo⟩ : ∃ b, noH h = b := ⟨_, rfl⟩
  rw [hbo] at hb
  have h3 := noHunk A n c A' n' c' k nm to q h (boxC w k nm to q A n c A' n' c') bo hq (hv_mv hv hbx) hbo
  have H3 := Lib.hid h3; have HBX := Lib.hid hbx; have HB := Lib.hid hb
  clear h3 hbx hv hb hq hbo
  by_cases ht : to = []
  · subst ht
    go_enter Tryz.func99, Tryz.ntmps99
    go_wp2_with fail
    refine H3.out.mono ?_
    rintro e w1 ⟨rfl, hb1⟩
    have HB1 := Lib.hid (below_via HBX.out hb1)
    clear hb1
    go_wp2
    go_ret
    exact ⟨ret_bool (by rw [← HB.out]; simp), HB1.out⟩
  · have et : (to == []) = false := by simpa using ht
    go_enter Tryz.func99, Tryz.ntmps99
    go_wp2
    go_ret
    exact ⟨ret_bool (by rw [← HB.out, decide_eq_false ht]; simp), HBX.out⟩

set_option maxHeartbeats 1000000 in
theorem hasHunk (A : Option Addr) (n c : Nat) (A' : Option Addr) (n' c' : Nat) (k : Int) (nm to : List UInt8) (q : Int) (h : HU) (w : World) (b : Bool) (hq : h.pos = q) (hv : HV w w.heap.size A n c A' n' c' h) (hb : (decide (to = []) && mayH h) = b) :
    Calls Tryz.prog 101 #[prV k nm to q A n c A' n' c'] w (TestEnd w b) := by
  have hbx := below_box1 w (.cells #[.int .i64 k, strV nm, strV to, .int .i64 q, .slice A n c, .slice A' n' c'] 105)
  obtain ⟨bo, hbo⟩ : ∃ b, mayH h = b := ⟨_, rfl⟩
  rw [hbo] at hb
  have h3 := May A n c A' n' c' (boxC w k nm to q A n c A' n' c').heap.size h (boxC w k nm to q A n c A' n' c') (Nat.le_refl _) (hv_mv hv hbx)
  rw [hbo, hq] at h3
  have H3 := Lib.hid h3; have HBX := Lib.hid hbx; have HB := Lib.hid hb
  clear h3 hbx hv hb hq hbo
  by_cases ht : to = []
  · subst ht
    go_enter Tryz.func101, Tryz.ntmps101
    go_wp2_with fail
    refine H3.out.mono ?_
    rintro e w1 ⟨rfl, hb1⟩
    have HB1 := Lib.hid (below_via HBX.out hb1)
    clear hb1
    go_wp2
    go_ret
    exact ⟨ret_bool (by rw [← HB.out]; simp), HB1.out⟩
  · have et : (to == []) = false := by simpa using ht
    go_enter Tryz.func101, Tryz.ntmps101
    go_wp2
    go_ret
    exact ⟨ret_bool (by rw [← HB.out, decide_eq_false ht]; simp), HBX.out⟩

set_option maxHeartbeats 1000000 in
theorem hasLines (A : Option Addr) (n c : Nat) (A' : Option Addr) (n' c' : Nat) (k : Int) (nm to : List UInt8) (q : Int) (h : HU) (w : World) (b : Bool) (hq : h.pos = q) (hv : HV w w.heap.size A n c A' n' c' h) (hb : (decide (to = []) && (mayH h && decide (h.pos = 0))) = b) :
    Calls Tryz.prog 102 #[prV k nm to q A n c A' n' c'] w (TestEnd w b) := by
  have hbx := below_box1 w (.cells #[.int .i64 k, strV nm, strV to, .int .i64 q, .slice A n c, .slice A' n' c'] 105)
  obtain ⟨bo, hbo⟩ : ∃ b, (decide (to = []) && mayH h) = b := ⟨_, rfl⟩
  rw [← Bool.and_assoc, hbo, hq] at hb
  have h3 := hasHunk A n c A' n' c' k nm to q h (boxC w k nm to q A n c A' n' c') bo hq (hv_mv hv hbx) hbo
  have b0 := Blk.new w 105 #[.int .i64 k, strV nm, strV to, .int .i64 q, .slice A n c, .slice A' n' c']
  have H3 := Lib.hid h3; have HBX := Lib.hid hbx; have HB := Lib.hid hb; have B0 := Lib.hid b0
  clear h3 hbx hv hb hq hbo b0
  go_enter Tryz.func102, Tryz.ntmps102
  go_wp2_with fail
  refine H3.out.mono ?_
  rintro e w1 ⟨rfl, hb1⟩
  have HB1 := Lib.hid (below_via HBX.out hb1)
  have b1 := B0.out.below hb1 B0.out.lt
  have x3 : w1.cell? ⟨w.heap.size, 3, none⟩ = some (.int .i64 q) := b1.cell 3 rfl
  clear hb1 b1 B0
  cases bo with
  | false =>
    go_wp2
    go_ret
    exact ⟨ret_bool (by rw [← HB.out]; simp), HB1.out⟩
  | true =>
    by_cases h0 : q = 0
    · have e0 : (q == 0) = true := by simpa using h0
      go_wp2
      go_ret
      exact ⟨ret_bool (by rw [← HB.out, decide_eq_true h0]; simp), HB1.out⟩
    · have e0 : (q == 0) = false := by simpa using h0
      go_wp2
      go_ret
      exact ⟨ret_bool (by rw [← HB.out, decide_eq_false h0]; simp), HB1.out⟩

set_option maxHeartbeats 1000000 in
theorem namesTwo (A : Option Addr) (n c : Nat) (A' : Option Addr) (n' c' : Nat) (k : Int) (nm to : List UInt8) (q : Int) (h : HU) (w : World) (b : Bool) (hto : to.length ≤ maxLen) (hq : h.pos = q) (hv : HV w w.heap.size A n c A' n' c' h) (hb : (name to && (decide (to ≠ nm) && noH h)) = b) :
    Calls Tryz.prog 100 #[prV k nm to q A n c A' n' c'] w (TestEnd w b) := by
  have hbx := below_box1 w (.cells #[.int .i64 k, strV nm, strV to, .int .i64 q, .slice A n c, .slice A' n' c'] 105)
  obtain ⟨bo, hbo⟩ : ∃ b, noH h = b := ⟨_, rfl⟩
  obtain ⟨bn, hbn⟩ : ∃ b, name to = b := ⟨_, rfl⟩
  rw [hbo, hbn] at hb
  have h3 := noHunk A n c A' n' c' k nm to q h (boxC w k nm to q A n c A' n' c') bo hq (hv_mv hv hbx) hbo
  have HN := Lib.hid (fun w => NameB to w bn hto hbn)
  have H3 := Lib.hid h3; have HBX := Lib.hid hbx; have HB := Lib.hid hb
  clear h3 hbx hv hb hq hbo hbn
  go_enter Tryz.func100, Tryz.ntmps100
  go_wp2_with fail
  refine (HN.out _).mono ?_
  rintro e w1 ⟨rfl, rfl⟩
  cases bn with
  | false =>
    go_wp2
    go_ret
    exact ⟨ret_bool (by rw [← HB.out]; simp), HBX.out⟩
  | true =>
    by_cases ht : to = nm
    · have et : (to == nm) = true := by simpa using ht
      have HO : Hid (false = b) := Lib.hid (by rw [← HB.out]; simp [ht])
      clear ht
      go_wp2
      go_ret
      exact ⟨ret_bool HO.out, HBX.out⟩
    · have et : (to == nm) = false := by simpa using ht
      go_wp2_with fail
      refine H3.out.mono ?_
      rintro e w1 ⟨rfl, hb1⟩
      have HB1 := Lib.hid (below_via HBX.out hb1)
      clear hb1
      go_wp2
      go_ret
      exact ⟨ret_bool (by rw [← HB.out]; simp [ht]), HB1.out⟩

/-- Five cells are set. -/
theorem blk5 {W : World} {b : Nat} {t : TypeId} {x0 x1 x2 x3 x4 : Value} (h : Blk W b t #[x0, x1, x2, x3, x4]) (v0 v1 v2 v3 v4 : Value) : Blk (((((World.setCell W ⟨b, 0, none⟩ v0).setCell ⟨b, 1, none⟩ v1).setCell ⟨b, 2, none⟩ v2).setCell ⟨b, 3, none⟩ v3).setCell ⟨b, 4, none⟩ v4) b t #[v0, v1, v2, v3, v4] :=
  have b0 : Blk _ b t #[v0, x1, x2, x3, x4] := h.set 0 v0
  have b1 : Blk _ b t #[v0, v1, x2, x3, x4] := b0.set 1 v1
  have b2 : Blk _ b t #[v0, v1, v2, x3, x4] := b1.set 2 v2
  have b3 : Blk _ b t #[v0, v1, v2, v3, x4] := b2.set 3 v3
  have b4 : Blk _ b t #[v0, v1, v2, v3, v4] := b3.set 4 v4
  b4
theorem below5 {w W : World} {b : Nat} (hb : Below b w W) (v0 v1 v2 v3 v4 : Value) : Below b w (((((World.setCell W ⟨b, 0, none⟩ v0).setCell ⟨b, 1, none⟩ v1).setCell ⟨b, 2, none⟩ v2).setCell ⟨b, 3, none⟩ v3).setCell ⟨b, 4, none⟩ v4) :=
  ((((hb.setCell (p := ⟨b, 0, none⟩) (Nat.le_refl _) v0).setCell (p := ⟨b, 1, none⟩) (Nat.le_refl _) v1).setCell (p := ⟨b, 2, none⟩) (Nat.le_refl _) v2).setCell (p := ⟨b, 3, none⟩) (Nat.le_refl _) v3).setCell (p := ⟨b, 4, none⟩) (Nat.le_refl _) v4

set_option maxHeartbeats 1000000 in
theorem forms (w : World) : Calls Tryz.prog 71 #[] w fun e w' => e = .returned (.agg #[.func (.func 99) #[] #[], .func (.func 99) #[] #[], .func (.func 100) #[] #[], .func (.func 101) #[] #[], .func (.func 102) #[] #[]]) ∧ Below w.heap.size w w' := by
  have hb := below_box1 w (.cells #[.nilFunc, .nilFunc, .nilFunc, .nilFunc, .nilFunc] 126)
  have b0 := Blk.new w 126 #[.nilFunc, .nilFunc, .nilFunc, .nilFunc, .nilFunc]
  go_enter Tryz.func71, Tryz.ntmps71
  go_upto_region 1 with fail
  generalize w.alloc (.cells #[.nilFunc, .nilFunc, .nilFunc, .nilFunc, .nilFunc] 126) = w1 at *
  have x0 : w1.cell? ⟨w.heap.size, 0, none⟩ = some .nilFunc := b0.cell 0 rfl
  have f0 : w1.frozen? ⟨w.heap.size, 0, none⟩ = false := b0.frozen 0
  have x1 : w1.cell? ⟨w.heap.size, 1, none⟩ = some .nilFunc := b0.cell 1 rfl
  have f1 : w1.frozen? ⟨w.heap.size, 1, none⟩ = false := b0.frozen 1
  have x2 : w1.cell? ⟨w.heap.size, 2, none⟩ = some .nilFunc := b0.cell 2 rfl
  have f2 : w1.frozen? ⟨w.heap.size, 2, none⟩ = false := b0.frozen 2
  have x3 : w1.cell? ⟨w.heap.size, 3, none⟩ = some .nilFunc := b0.cell 3 rfl
  have f3 : w1.frozen? ⟨w.heap.size, 3, none⟩ = false := b0.frozen 3
  have x4 : w1.cell? ⟨w.heap.size, 4, none⟩ = some .nilFunc := b0.cell 4 rfl
  have f4 : w1.frozen? ⟨w.heap.size, 4, none⟩ = false := b0.frozen 4
  have b1 := blk5 b0 (.func (.func 99) #[] #[]) (.func (.func 99) #[] #[]) (.func (.func 100) #[] #[]) (.func (.func 101) #[] #[]) (.func (.func 102) #[] #[])
  have HB := Lib.hid (below5 hb (.func (.func 99) #[] #[]) (.func (.func 99) #[] #[]) (.func (.func 100) #[] #[]) (.func (.func 101) #[] #[]) (.func (.func 102) #[] #[])); have B1 := Lib.hid b1
  clear b0 b1 hb
  go_wp2
  have b1 := B1.out; have hb := HB.out
  clear x0 x1 x2 x3 x4 f0 f1 f2 f3 f4 B1 HB
  generalize (World.setCell (World.setCell (World.setCell (World.setCell (World.setCell w1 ⟨w.heap.size, 0, none⟩ (.func (.func 99) #[] #[])) ⟨w.heap.size, 1, none⟩ (.func (.func 99) #[] #[])) ⟨w.heap.size, 2, none⟩ (.func (.func 100) #[] #[])) ⟨w.heap.size, 3, none⟩ (.func (.func 101) #[] #[])) ⟨w.heap.size, 4, none⟩ (.func (.func 102) #[] #[])) = w2 at *
  have q0 : w2.cell? ⟨w.heap.size, 0, none⟩ = some (.func (.func 99) #[] #[]) := b1.cell 0 rfl
  have q1 : w2.cell? ⟨w.heap.size, 1, none⟩ = some (.func (.func 99) #[] #[]) := b1.cell 1 rfl
  have q2 : w2.cell? ⟨w.heap.size, 2, none⟩ = some (.func (.func 100) #[] #[]) := b1.cell 2 rfl
  have q3 : w2.cell? ⟨w.heap.size, 3, none⟩ = some (.func (.func 101) #[] #[]) := b1.cell 3 rfl
  have q4 : w2.cell? ⟨w.heap.size, 4, none⟩ = some (.func (.func 102) #[] #[]) := b1.cell 4 rfl
  refine bodyPost_ret (v := .agg #[.func (.func 99) #[] #[], .func (.func 99) #[] #[], .func (.func 100) #[] #[], .func (.func 101) #[] #[], .func (.func 102) #[] #[]]) (by simp [results, Tryz.results71, go_sem, q0, q1, q2, q3, q4]) rfl ?_
  exact ⟨rfl, hb⟩

theorem index_may (w : World) (i : Int) (f : Value) (hi : 0 ≤ i ∧ i < 5) (hf : (#[.func (.func 99) #[] #[], .func (.func 99) #[] #[], .func (.func 100) #[] #[], .func (.func 101) #[] #[], .func (.func 102) #[] #[]] : Array Value)[i.toNat]? = some f) :
    (Instr.index 126 (.agg #[.func (.func 99) #[] #[], .func (.func 99) #[] #[], .func (.func 100) #[] #[], .func (.func 101) #[] #[], .func (.func 102) #[] #[]]) (.int .i64 i)).run Tryz.prog w = .ok f w :=
  run_index_array Tryz.underlying126 hi (by kernel_rfl) (by kernel_rfl) hf

set_option maxHeartbeats 4000000 in
theorem MayP0 (A : Option Addr) (n c : Nat) (A' : Option Addr) (n' c' : Nat) (nm to : List UInt8) (q : Int) (w : World) (bn bm : Bool) (hn : nm.length ≤ maxLen) (hb : name nm = bn)
    (hm : ∀ w1, Below w.heap.size w w1 → Calls Tryz.prog 99 #[prV 0 nm to q A n c A' n' c'] w1 (TestEnd w1 bm)) :
    Calls Tryz.prog 55 #[prV 0 nm to q A n c A' n' c'] w (TestEnd w (bn && bm)) := by
  have HN := Lib.hid (fun w => NameB nm w bn hn hb)
  have hbx : Below w.heap.size w (box w 0 nm to q A n c A' n' c') := (Below.refl _ _).alloc (Nat.le_refl _) _
  have HBX := Lib.hid hbx; have H1 := Lib.hid hm
  have b0 := Blk.new w 55 #[.int .i64 0, strV nm, strV to, .int .i64 q, .slice A n c, .slice A' n' c']
  clear hbx hm hb
  go_enter Tryz.func55, Tryz.ntmps55
  go_wp2_with fail
  have HH : Hid (∀ w1, Below (box w 0 nm to q A n c A' n' c').heap.size (box w 0 nm to q A n c A' n' c').drew w1 → Blk w1 w.heap.size 55 #[.int .i64 0, strV nm, strV to, .int .i64 q, .slice A n c, .slice A' n' c']) := Lib.hid (fun w1 hb => (b0.drewN 1).below hb (by simp))
  have HT : Hid (∀ w1, Below (box w 0 nm to q A n c A' n' c').heap.size (box w 0 nm to q A n c A' n' c').drew w1 → Below w.heap.size w w1) := Lib.hid (fun w1 hb => (below_drewN HBX.out 1).trans (hb.mono HBX.out.size))
  have HBD : Hid (∀ d, Below w.heap.size w ((box w 0 nm to q A n c A' n' c').drewN d)) := Lib.hid (below_drewN HBX.out)
  generalize hW : box w 0 nm to q A n c A' n' c' = W at *
  unfold box at hW
  rw [hW] at b0 ⊢
  clear hW
  have x0 : W.cell? ⟨w.heap.size, 0, none⟩ = some (.int .i64 0) := b0.cell 0 rfl
  have x1 : W.cell? ⟨w.heap.size, 1, none⟩ = some (strV nm) := b0.cell 1 rfl
  have x2 : W.cell? ⟨w.heap.size, 2, none⟩ = some (strV to) := b0.cell 2 rfl
  have x3 : W.cell? ⟨w.heap.size, 3, none⟩ = some (.int .i64 q) := b0.cell 3 rfl
  have x4 : W.cell? ⟨w.heap.size, 4, none⟩ = some (.slice A n c) := b0.cell 4 rfl
  have x5 : W.cell? ⟨w.heap.size, 5, none⟩ = some (.slice A' n' c') := b0.cell 5 rfl
  clear b0
  have qi := fun w => index_may w 0 _ (by decide) rfl
  cases bn with
  | false =>
    have HN0 : Hid (∀ d : Nat, Calls Tryz.prog 70 #[strV nm] (W.drewN d) fun e w' => e = .returned (.bool false) ∧ ∃ m, w' = (W.drewN d).drewN m) := Lib.hid (fun d => (HN.out (W.drewN d)).mono (by rintro e w' ⟨rfl, rfl⟩; exact ⟨rfl, 0, rfl⟩))
    go_quiet (with_reducible exact Calls.quiet_of (HN0.out _))
    go_wp2
    go_ret
    exact ⟨rfl, HBD.out _⟩
  | true =>
    go_region_held3 (fun w' => w'.cell? ⟨w.heap.size, 0, none⟩ = some (.int .i64 0) ∧ w'.cell? ⟨w.heap.size, 1, none⟩ = some (strV nm) ∧ w'.cell? ⟨w.heap.size, 2, none⟩ = some (strV to) ∧ w'.cell? ⟨w.heap.size, 3, none⟩ = some (.int .i64 q) ∧ w'.cell? ⟨w.heap.size, 4, none⟩ = some (.slice A n c) ∧ w'.cell? ⟨w.heap.size, 5, none⟩ = some (.slice A' n' c'))
      (first | go_keep | (exact ⟨y0, y1, y2, y3, y4, y5⟩) | (exact ⟨z0, z1, z2, z3, z4, z5⟩))
      (first
        | (go_at_call 70; refine (HN.out W.drew).mono ?_; rintro e w1 ⟨rfl, rfl⟩)
        | (go_at_call 71; refine (forms W.drew).mono ?_; rintro e w1 ⟨rfl, hb1⟩; have b1 := HH.out w1 hb1; have hb01 := HT.out w1 hb1; have y0 : w1.cell? ⟨w.heap.size, 0, none⟩ = some (.int .i64 0) := b1.cell 0 rfl; have y1 : w1.cell? ⟨w.heap.size, 1, none⟩ = some (strV nm) := b1.cell 1 rfl; have y2 : w1.cell? ⟨w.heap.size, 2, none⟩ = some (strV to) := b1.cell 2 rfl; have y3 : w1.cell? ⟨w.heap.size, 3, none⟩ = some (.int .i64 q) := b1.cell 3 rfl; have y4 : w1.cell? ⟨w.heap.size, 4, none⟩ = some (.slice A n c) := b1.cell 4 rfl; have y5 : w1.cell? ⟨w.heap.size, 5, none⟩ = some (.slice A' n' c') := b1.cell 5 rfl; have HB1 := Lib.hid hb01; have B1 := Lib.hid b1; clear b1 hb1 hb01)
        | (go_at_call 99; refine (H1.out w1 HB1.out).mono ?_; rintro e w2 ⟨rfl, hb2⟩; have hb02 := below_via HB1.out hb2; have b2 := B1.out.below hb2 B1.out.lt; have z0 : w2.cell? ⟨w.heap.size, 0, none⟩ = some (.int .i64 0) := b2.cell 0 rfl; have z1 : w2.cell? ⟨w.heap.size, 1, none⟩ = some (strV nm) := b2.cell 1 rfl; have z2 : w2.cell? ⟨w.heap.size, 2, none⟩ = some (strV to) := b2.cell 2 rfl; have z3 : w2.cell? ⟨w.heap.size, 3, none⟩ = some (.int .i64 q) := b2.cell 3 rfl; have z4 : w2.cell? ⟨w.heap.size, 4, none⟩ = some (.slice A n c) := b2.cell 4 rfl; have z5 : w2.cell? ⟨w.heap.size, 5, none⟩ = some (.slice A' n' c') := b2.cell 5 rfl; have HB2 := Lib.hid hb02; clear b2 hb2 hb02))
    go_wp2
    go_ret
    exact ⟨ret_bool (by simp), HB2.out⟩

set_option maxHeartbeats 4000000 in
theorem MayP1 (A : Option Addr) (n c : Nat) (A' : Option Addr) (n' c' : Nat) (nm to : List UInt8) (q : Int) (w : World) (bn bm : Bool) (hn : nm.length ≤ maxLen) (hb : name nm = bn)
    (hm : ∀ w1, Below w.heap.size w w1 → Calls Tryz.prog 99 #[prV 1 nm to q A n c A' n' c'] w1 (TestEnd w1 bm)) :
    Calls Tryz.prog 55 #[prV 1 nm to q A n c A' n' c'] w (TestEnd w (bn && bm)) := by
  have HN := Lib.hid (fun w => NameB nm w bn hn hb)
  have hbx : Below w.heap.size w (box w 1 nm to q A n c A' n' c') := (Below.refl _ _).alloc (Nat.le_refl _) _
  have HBX := Lib.hid hbx; have H1 := Lib.hid hm
  have b0 := Blk.new w 55 #[.int .i64 1, strV nm, strV to, .int .i64 q, .slice A n c, .slice A' n' c']
  clear hbx hm hb
  go_enter Tryz.func55, Tryz.ntmps55
  go_wp2_with fail
  have HH : Hid (∀ w1, Below (box w 1 nm to q A n c A' n' c').heap.size (box w 1 nm to q A n c A' n' c').drew w1 → Blk w1 w.heap.size 55 #[.int .i64 1, strV nm, strV to, .int .i64 q, .slice A n c, .slice A' n' c']) := Lib.hid (fun w1 hb => (b0.drewN 1).below hb (by simp))
  have HT : Hid (∀ w1, Below (box w 1 nm to q A n c A' n' c').heap.size (box w 1 nm to q A n c A' n' c').drew w1 → Below w.heap.size w w1) := Lib.hid (fun w1 hb => (below_drewN HBX.out 1).trans (hb.mono HBX.out.size))
  have HBD : Hid (∀ d, Below w.heap.size w ((box w 1 nm to q A n c A' n' c').drewN d)) := Lib.hid (below_drewN HBX.out)
  generalize hW : box w 1 nm to q A n c A' n' c' = W at *
  unfold box at hW
  rw [hW] at b0 ⊢
  clear hW
  have x0 : W.cell? ⟨w.heap.size, 0, none⟩ = some (.int .i64 1) := b0.cell 0 rfl
  have x1 : W.cell? ⟨w.heap.size, 1, none⟩ = some (strV nm) := b0.cell 1 rfl
  have x2 : W.cell? ⟨w.heap.size, 2, none⟩ = some (strV to) := b0.cell 2 rfl
  have x3 : W.cell? ⟨w.heap.size, 3, none⟩ = some (.int .i64 q) := b0.cell 3 rfl
  have x4 : W.cell? ⟨w.heap.size, 4, none⟩ = some (.slice A n c) := b0.cell 4 rfl
  have x5 : W.cell? ⟨w.heap.size, 5, none⟩ = some (.slice A' n' c') := b0.cell 5 rfl
  clear b0
  have qi := fun w => index_may w 1 _ (by decide) rfl
  cases bn with
  | false =>
    have HN0 : Hid (∀ d : Nat, Calls Tryz.prog 70 #[strV nm] (W.drewN d) fun e w' => e = .returned (.bool false) ∧ ∃ m, w' = (W.drewN d).drewN m) := Lib.hid (fun d => (HN.out (W.drewN d)).mono (by rintro e w' ⟨rfl, rfl⟩; exact ⟨rfl, 0, rfl⟩))
    go_quiet (with_reducible exact Calls.quiet_of (HN0.out _))
    go_wp2
    go_ret
    exact ⟨rfl, HBD.out _⟩
  | true =>
    go_region_held3 (fun w' => w'.cell? ⟨w.heap.size, 0, none⟩ = some (.int .i64 1) ∧ w'.cell? ⟨w.heap.size, 1, none⟩ = some (strV nm) ∧ w'.cell? ⟨w.heap.size, 2, none⟩ = some (strV to) ∧ w'.cell? ⟨w.heap.size, 3, none⟩ = some (.int .i64 q) ∧ w'.cell? ⟨w.heap.size, 4, none⟩ = some (.slice A n c) ∧ w'.cell? ⟨w.heap.size, 5, none⟩ = some (.slice A' n' c'))
      (first | go_keep | (exact ⟨y0, y1, y2, y3, y4, y5⟩) | (exact ⟨z0, z1, z2, z3, z4, z5⟩))
      (first
        | (go_at_call 70; refine (HN.out W.drew).mono ?_; rintro e w1 ⟨rfl, rfl⟩)
        | (go_at_call 71; refine (forms W.drew).mono ?_; rintro e w1 ⟨rfl, hb1⟩; have b1 := HH.out w1 hb1; have hb01 := HT.out w1 hb1; have y0 : w1.cell? ⟨w.heap.size, 0, none⟩ = some (.int .i64 1) := b1.cell 0 rfl; have y1 : w1.cell? ⟨w.heap.size, 1, none⟩ = some (strV nm) := b1.cell 1 rfl; have y2 : w1.cell? ⟨w.heap.size, 2, none⟩ = some (strV to) := b1.cell 2 rfl; have y3 : w1.cell? ⟨w.heap.size, 3, none⟩ = some (.int .i64 q) := b1.cell 3 rfl; have y4 : w1.cell? ⟨w.heap.size, 4, none⟩ = some (.slice A n c) := b1.cell 4 rfl; have y5 : w1.cell? ⟨w.heap.size, 5, none⟩ = some (.slice A' n' c') := b1.cell 5 rfl; have HB1 := Lib.hid hb01; have B1 := Lib.hid b1; clear b1 hb1 hb01)
        | (go_at_call 99; refine (H1.out w1 HB1.out).mono ?_; rintro e w2 ⟨rfl, hb2⟩; have hb02 := below_via HB1.out hb2; have b2 := B1.out.below hb2 B1.out.lt; have z0 : w2.cell? ⟨w.heap.size, 0, none⟩ = some (.int .i64 1) := b2.cell 0 rfl; have z1 : w2.cell? ⟨w.heap.size, 1, none⟩ = some (strV nm) := b2.cell 1 rfl; have z2 : w2.cell? ⟨w.heap.size, 2, none⟩ = some (strV to) := b2.cell 2 rfl; have z3 : w2.cell? ⟨w.heap.size, 3, none⟩ = some (.int .i64 q) := b2.cell 3 rfl; have z4 : w2.cell? ⟨w.heap.size, 4, none⟩ = some (.slice A n c) := b2.cell 4 rfl; have z5 : w2.cell? ⟨w.heap.size, 5, none⟩ = some (.slice A' n' c') := b2.cell 5 rfl; have HB2 := Lib.hid hb02; clear b2 hb2 hb02))
    go_wp2
    go_ret
    exact ⟨ret_bool (by simp), HB2.out⟩

set_option maxHeartbeats 4000000 in
theorem MayP2 (A : Option Addr) (n c : Nat) (A' : Option Addr) (n' c' : Nat) (nm to : List UInt8) (q : Int) (w : World) (bn bm : Bool) (hn : nm.length ≤ maxLen) (hb : name nm = bn)
    (hm : ∀ w1, Below w.heap.size w w1 → Calls Tryz.prog 100 #[prV 2 nm to q A n c A' n' c'] w1 (TestEnd w1 bm)) :
    Calls Tryz.prog 55 #[prV 2 nm to q A n c A' n' c'] w (TestEnd w (bn && bm)) := by
  have HN := Lib.hid (fun w => NameB nm w bn hn hb)
  have hbx : Below w.heap.size w (box w 2 nm to q A n c A' n' c') := (Below.refl _ _).alloc (Nat.le_refl _) _
  have HBX := Lib.hid hbx; have H1 := Lib.hid hm
  have b0 := Blk.new w 55 #[.int .i64 2, strV nm, strV to, .int .i64 q, .slice A n c, .slice A' n' c']
  clear hbx hm hb
  go_enter Tryz.func55, Tryz.ntmps55
  go_wp2_with fail
  have HH : Hid (∀ w1, Below (box w 2 nm to q A n c A' n' c').heap.size (box w 2 nm to q A n c A' n' c').drew w1 → Blk w1 w.heap.size 55 #[.int .i64 2, strV nm, strV to, .int .i64 q, .slice A n c, .slice A' n' c']) := Lib.hid (fun w1 hb => (b0.drewN 1).below hb (by simp))
  have HT : Hid (∀ w1, Below (box w 2 nm to q A n c A' n' c').heap.size (box w 2 nm to q A n c A' n' c').drew w1 → Below w.heap.size w w1) := Lib.hid (fun w1 hb => (below_drewN HBX.out 1).trans (hb.mono HBX.out.size))
  have HBD : Hid (∀ d, Below w.heap.size w ((box w 2 nm to q A n c A' n' c').drewN d)) := Lib.hid (below_drewN HBX.out)
  generalize hW : box w 2 nm to q A n c A' n' c' = W at *
  unfold box at hW
  rw [hW] at b0 ⊢
  clear hW
  have x0 : W.cell? ⟨w.heap.size, 0, none⟩ = some (.int .i64 2) := b0.cell 0 rfl
  have x1 : W.cell? ⟨w.heap.size, 1, none⟩ = some (strV nm) := b0.cell 1 rfl
  have x2 : W.cell? ⟨w.heap.size, 2, none⟩ = some (strV to) := b0.cell 2 rfl
  have x3 : W.cell? ⟨w.heap.size, 3, none⟩ = some (.int .i64 q) := b0.cell 3 rfl
  have x4 : W.cell? ⟨w.heap.size, 4, none⟩ = some (.slice A n c) := b0.cell 4 rfl
  have x5 : W.cell? ⟨w.heap.size, 5, none⟩ = some (.slice A' n' c') := b0.cell 5 rfl
  clear b0
  have qi := fun w => index_may w 2 _ (by decide) rfl
  cases bn with
  | false =>
    have HN0 : Hid (∀ d : Nat, Calls Tryz.prog 70 #[strV nm] (W.drewN d) fun e w' => e = .returned (.bool false) ∧ ∃ m, w' = (W.drewN d).drewN m) := Lib.hid (fun d => (HN.out (W.drewN d)).mono (by rintro e w' ⟨rfl, rfl⟩; exact ⟨rfl, 0, rfl⟩))
    go_quiet (with_reducible exact Calls.quiet_of (HN0.out _))
    go_wp2
    go_ret
    exact ⟨rfl, HBD.out _⟩
  | true =>
    go_region_held3 (fun w' => w'.cell? ⟨w.heap.size, 0, none⟩ = some (.int .i64 2) ∧ w'.cell? ⟨w.heap.size, 1, none⟩ = some (strV nm) ∧ w'.cell? ⟨w.heap.size, 2, none⟩ = some (strV to) ∧ w'.cell? ⟨w.heap.size, 3, none⟩ = some (.int .i64 q) ∧ w'.cell? ⟨w.heap.size, 4, none⟩ = some (.slice A n c) ∧ w'.cell? ⟨w.heap.size, 5, none⟩ = some (.slice A' n' c'))
      (first | go_keep | (exact ⟨y0, y1, y2, y3, y4, y5⟩) | (exact ⟨z0, z1, z2, z3, z4, z5⟩))
      (first
        | (go_at_call 70; refine (HN.out W.drew).mono ?_; rintro e w1 ⟨rfl, rfl⟩)
        | (go_at_call 71; refine (forms W.drew).mono ?_; rintro e w1 ⟨rfl, hb1⟩; have b1 := HH.out w1 hb1; have hb01 := HT.out w1 hb1; have y0 : w1.cell? ⟨w.heap.size, 0, none⟩ = some (.int .i64 2) := b1.cell 0 rfl; have y1 : w1.cell? ⟨w.heap.size, 1, none⟩ = some (strV nm) := b1.cell 1 rfl; have y2 : w1.cell? ⟨w.heap.size, 2, none⟩ = some (strV to) := b1.cell 2 rfl; have y3 : w1.cell? ⟨w.heap.size, 3, none⟩ = some (.int .i64 q) := b1.cell 3 rfl; have y4 : w1.cell? ⟨w.heap.size, 4, none⟩ = some (.slice A n c) := b1.cell 4 rfl; have y5 : w1.cell? ⟨w.heap.size, 5, none⟩ = some (.slice A' n' c') := b1.cell 5 rfl; have HB1 := Lib.hid hb01; have B1 := Lib.hid b1; clear b1 hb1 hb01)
        | (go_at_call 100; refine (H1.out w1 HB1.out).mono ?_; rintro e w2 ⟨rfl, hb2⟩; have hb02 := below_via HB1.out hb2; have b2 := B1.out.below hb2 B1.out.lt; have z0 : w2.cell? ⟨w.heap.size, 0, none⟩ = some (.int .i64 2) := b2.cell 0 rfl; have z1 : w2.cell? ⟨w.heap.size, 1, none⟩ = some (strV nm) := b2.cell 1 rfl; have z2 : w2.cell? ⟨w.heap.size, 2, none⟩ = some (strV to) := b2.cell 2 rfl; have z3 : w2.cell? ⟨w.heap.size, 3, none⟩ = some (.int .i64 q) := b2.cell 3 rfl; have z4 : w2.cell? ⟨w.heap.size, 4, none⟩ = some (.slice A n c) := b2.cell 4 rfl; have z5 : w2.cell? ⟨w.heap.size, 5, none⟩ = some (.slice A' n' c') := b2.cell 5 rfl; have HB2 := Lib.hid hb02; clear b2 hb2 hb02))
    go_wp2
    go_ret
    exact ⟨ret_bool (by simp), HB2.out⟩

set_option maxHeartbeats 4000000 in
theorem MayP3 (A : Option Addr) (n c : Nat) (A' : Option Addr) (n' c' : Nat) (nm to : List UInt8) (q : Int) (w : World) (bn bm : Bool) (hn : nm.length ≤ maxLen) (hb : name nm = bn)
    (hm : ∀ w1, Below w.heap.size w w1 → Calls Tryz.prog 101 #[prV 3 nm to q A n c A' n' c'] w1 (TestEnd w1 bm)) :
    Calls Tryz.prog 55 #[prV 3 nm to q A n c A' n' c'] w (TestEnd w (bn && bm)) := by
  have HN := Lib.hid (fun w => NameB nm w bn hn hb)
  have hbx : Below w.heap.size w (box w 3 nm to q A n c A' n' c') := (Below.refl _ _).alloc (Nat.le_refl _) _
  have HBX := Lib.hid hbx; have H1 := Lib.hid hm
  have b0 := Blk.new w 55 #[.int .i64 3, strV nm, strV to, .int .i64 q, .slice A n c, .slice A' n' c']
  clear hbx hm hb
  go_enter Tryz.func55, Tryz.ntmps55
  go_wp2_with fail
  have HH : Hid (∀ w1, Below (box w 3 nm to q A n c A' n' c').heap.size (box w 3 nm to q A n c A' n' c').drew w1 → Blk w1 w.heap.size 55 #[.int .i64 3, strV nm, strV to, .int .i64 q, .slice A n c, .slice A' n' c']) := Lib.hid (fun w1 hb => (b0.drewN 1).below hb (by simp))
  have HT : Hid (∀ w1, Below (box w 3 nm to q A n c A' n' c').heap.size (box w 3 nm to q A n c A' n' c').drew w1 → Below w.heap.size w w1) := Lib.hid (fun w1 hb => (below_drewN HBX.out 1).trans (hb.mono HBX.out.size))
  have HBD : Hid (∀ d, Below w.heap.size w ((box w 3 nm to q A n c A' n' c').drewN d)) := Lib.hid (below_drewN HBX.out)
  generalize hW : box w 3 nm to q A n c A' n' c' = W at *
  unfold box at hW
  rw [hW] at b0 ⊢
  clear hW
  have x0 : W.cell? ⟨w.heap.size, 0, none⟩ = some (.int .i64 3) := b0.cell 0 rfl
  have x1 : W.cell? ⟨w.heap.size, 1, none⟩ = some (strV nm) := b0.cell 1 rfl
  have x2 : W.cell? ⟨w.heap.size, 2, none⟩ = some (strV to) := b0.cell 2 rfl
  have x3 : W.cell? ⟨w.heap.size, 3, none⟩ = some (.int .i64 q) := b0.cell 3 rfl
  have x4 : W.cell? ⟨w.heap.size, 4, none⟩ = some (.slice A n c) := b0.cell 4 rfl
  have x5 : W.cell? ⟨w.heap.size, 5, none⟩ = some (.slice A' n' c') := b0.cell 5 rfl
  clear b0
  have qi := fun w => index_may w 3 _ (by decide) rfl
  cases bn with
  | false =>
    have HN0 : Hid (∀ d : Nat, Calls Tryz.prog 70 #[strV nm] (W.drewN d) fun e w' => e = .returned (.bool false) ∧ ∃ m, w' = (W.drewN d).drewN m) := Lib.hid (fun d => (HN.out (W.drewN d)).mono (by rintro e w' ⟨rfl, rfl⟩; exact ⟨rfl, 0, rfl⟩))
    go_quiet (with_reducible exact Calls.quiet_of (HN0.out _))
    go_wp2
    go_ret
    exact ⟨rfl, HBD.out _⟩
  | true =>
    go_region_held3 (fun w' => w'.cell? ⟨w.heap.size, 0, none⟩ = some (.int .i64 3) ∧ w'.cell? ⟨w.heap.size, 1, none⟩ = some (strV nm) ∧ w'.cell? ⟨w.heap.size, 2, none⟩ = some (strV to) ∧ w'.cell? ⟨w.heap.size, 3, none⟩ = some (.int .i64 q) ∧ w'.cell? ⟨w.heap.size, 4, none⟩ = some (.slice A n c) ∧ w'.cell? ⟨w.heap.size, 5, none⟩ = some (.slice A' n' c'))
      (first | go_keep | (exact ⟨y0, y1, y2, y3, y4, y5⟩) | (exact ⟨z0, z1, z2, z3, z4, z5⟩))
      (first
        | (go_at_call 70; refine (HN.out W.drew).mono ?_; rintro e w1 ⟨rfl, rfl⟩)
        | (go_at_call 71; refine (forms W.drew).mono ?_; rintro e w1 ⟨rfl, hb1⟩; have b1 := HH.out w1 hb1; have hb01 := HT.out w1 hb1; have y0 : w1.cell? ⟨w.heap.size, 0, none⟩ = some (.int .i64 3) := b1.cell 0 rfl; have y1 : w1.cell? ⟨w.heap.size, 1, none⟩ = some (strV nm) := b1.cell 1 rfl; have y2 : w1.cell? ⟨w.heap.size, 2, none⟩ = some (strV to) := b1.cell 2 rfl; have y3 : w1.cell? ⟨w.heap.size, 3, none⟩ = some (.int .i64 q) := b1.cell 3 rfl; have y4 : w1.cell? ⟨w.heap.size, 4, none⟩ = some (.slice A n c) := b1.cell 4 rfl; have y5 : w1.cell? ⟨w.heap.size, 5, none⟩ = some (.slice A' n' c') := b1.cell 5 rfl; have HB1 := Lib.hid hb01; have B1 := Lib.hid b1; clear b1 hb1 hb01)
        | (go_at_call 101; refine (H1.out w1 HB1.out).mono ?_; rintro e w2 ⟨rfl, hb2⟩; have hb02 := below_via HB1.out hb2; have b2 := B1.out.below hb2 B1.out.lt; have z0 : w2.cell? ⟨w.heap.size, 0, none⟩ = some (.int .i64 3) := b2.cell 0 rfl; have z1 : w2.cell? ⟨w.heap.size, 1, none⟩ = some (strV nm) := b2.cell 1 rfl; have z2 : w2.cell? ⟨w.heap.size, 2, none⟩ = some (strV to) := b2.cell 2 rfl; have z3 : w2.cell? ⟨w.heap.size, 3, none⟩ = some (.int .i64 q) := b2.cell 3 rfl; have z4 : w2.cell? ⟨w.heap.size, 4, none⟩ = some (.slice A n c) := b2.cell 4 rfl; have z5 : w2.cell? ⟨w.heap.size, 5, none⟩ = some (.slice A' n' c') := b2.cell 5 rfl; have HB2 := Lib.hid hb02; clear b2 hb2 hb02))
    go_wp2
    go_ret
    exact ⟨ret_bool (by simp), HB2.out⟩

set_option maxHeartbeats 4000000 in
theorem MayP4 (A : Option Addr) (n c : Nat) (A' : Option Addr) (n' c' : Nat) (nm to : List UInt8) (q : Int) (w : World) (bn bm : Bool) (hn : nm.length ≤ maxLen) (hb : name nm = bn)
    (hm : ∀ w1, Below w.heap.size w w1 → Calls Tryz.prog 102 #[prV 4 nm to q A n c A' n' c'] w1 (TestEnd w1 bm)) :
    Calls Tryz.prog 55 #[prV 4 nm to q A n c A' n' c'] w (TestEnd w (bn && bm)) := by
  have HN := Lib.hid (fun w => NameB nm w bn hn hb)
  have hbx : Below w.heap.size w (box w 4 nm to q A n c A' n' c') := (Below.refl _ _).alloc (Nat.le_refl _) _
  have HBX := Lib.hid hbx; have H1 := Lib.hid hm
  have b0 := Blk.new w 55 #[.int .i64 4, strV nm, strV to, .int .i64 q, .slice A n c, .slice A' n' c']
  clear hbx hm hb
  go_enter Tryz.func55, Tryz.ntmps55
  go_wp2_with fail
  have HH : Hid (∀ w1, Below (box w 4 nm to q A n c A' n' c').heap.size (box w 4 nm to q A n c A' n' c').drew w1 → Blk w1 w.heap.size 55 #[.int .i64 4, strV nm, strV to, .int .i64 q, .slice A n c, .slice A' n' c']) := Lib.hid (fun w1 hb => (b0.drewN 1).below hb (by simp))
  have HT : Hid (∀ w1, Below (box w 4 nm to q A n c A' n' c').heap.size (box w 4 nm to q A n c A' n' c').drew w1 → Below w.heap.size w w1) := Lib.hid (fun w1 hb => (below_drewN HBX.out 1).trans (hb.mono HBX.out.size))
  have HBD : Hid (∀ d, Below w.heap.size w ((box w 4 nm to q A n c A' n' c').drewN d)) := Lib.hid (below_drewN HBX.out)
  generalize hW : box w 4 nm to q A n c A' n' c' = W at *
  unfold box at hW
  rw [hW] at b0 ⊢
  clear hW
  have x0 : W.cell? ⟨w.heap.size, 0, none⟩ = some (.int .i64 4) := b0.cell 0 rfl
  have x1 : W.cell? ⟨w.heap.size, 1, none⟩ = some (strV nm) := b0.cell 1 rfl
  have x2 : W.cell? ⟨w.heap.size, 2, none⟩ = some (strV to) := b0.cell 2 rfl
  have x3 : W.cell? ⟨w.heap.size, 3, none⟩ = some (.int .i64 q) := b0.cell 3 rfl
  have x4 : W.cell? ⟨w.heap.size, 4, none⟩ = some (.slice A n c) := b0.cell 4 rfl
  have x5 : W.cell? ⟨w.heap.size, 5, none⟩ = some (.slice A' n' c') := b0.cell 5 rfl
  clear b0
  have qi := fun w => index_may w 4 _ (by decide) rfl
  cases bn with
  | false =>
    have HN0 : Hid (∀ d : Nat, Calls Tryz.prog 70 #[strV nm] (W.drewN d) fun e w' => e = .returned (.bool false) ∧ ∃ m, w' = (W.drewN d).drewN m) := Lib.hid (fun d => (HN.out (W.drewN d)).mono (by rintro e w' ⟨rfl, rfl⟩; exact ⟨rfl, 0, rfl⟩))
    go_quiet (with_reducible exact Calls.quiet_of (HN0.out _))
    go_wp2
    go_ret
    exact ⟨rfl, HBD.out _⟩
  | true =>
    go_region_held3 (fun w' => w'.cell? ⟨w.heap.size, 0, none⟩ = some (.int .i64 4) ∧ w'.cell? ⟨w.heap.size, 1, none⟩ = some (strV nm) ∧ w'.cell? ⟨w.heap.size, 2, none⟩ = some (strV to) ∧ w'.cell? ⟨w.heap.size, 3, none⟩ = some (.int .i64 q) ∧ w'.cell? ⟨w.heap.size, 4, none⟩ = some (.slice A n c) ∧ w'.cell? ⟨w.heap.size, 5, none⟩ = some (.slice A' n' c'))
      (first | go_keep | (exact ⟨y0, y1, y2, y3, y4, y5⟩) | (exact ⟨z0, z1, z2, z3, z4, z5⟩))
      (first
        | (go_at_call 70; refine (HN.out W.drew).mono ?_; rintro e w1 ⟨rfl, rfl⟩)
        | (go_at_call 71; refine (forms W.drew).mono ?_; rintro e w1 ⟨rfl, hb1⟩; have b1 := HH.out w1 hb1; have hb01 := HT.out w1 hb1; have y0 : w1.cell? ⟨w.heap.size, 0, none⟩ = some (.int .i64 4) := b1.cell 0 rfl; have y1 : w1.cell? ⟨w.heap.size, 1, none⟩ = some (strV nm) := b1.cell 1 rfl; have y2 : w1.cell? ⟨w.heap.size, 2, none⟩ = some (strV to) := b1.cell 2 rfl; have y3 : w1.cell? ⟨w.heap.size, 3, none⟩ = some (.int .i64 q) := b1.cell 3 rfl; have y4 : w1.cell? ⟨w.heap.size, 4, none⟩ = some (.slice A n c) := b1.cell 4 rfl; have y5 : w1.cell? ⟨w.heap.size, 5, none⟩ = some (.slice A' n' c') := b1.cell 5 rfl; have HB1 := Lib.hid hb01; have B1 := Lib.hid b1; clear b1 hb1 hb01)
        | (go_at_call 102; refine (H1.out w1 HB1.out).mono ?_; rintro e w2 ⟨rfl, hb2⟩; have hb02 := below_via HB1.out hb2; have b2 := B1.out.below hb2 B1.out.lt; have z0 : w2.cell? ⟨w.heap.size, 0, none⟩ = some (.int .i64 4) := b2.cell 0 rfl; have z1 : w2.cell? ⟨w.heap.size, 1, none⟩ = some (strV nm) := b2.cell 1 rfl; have z2 : w2.cell? ⟨w.heap.size, 2, none⟩ = some (strV to) := b2.cell 2 rfl; have z3 : w2.cell? ⟨w.heap.size, 3, none⟩ = some (.int .i64 q) := b2.cell 3 rfl; have z4 : w2.cell? ⟨w.heap.size, 4, none⟩ = some (.slice A n c) := b2.cell 4 rfl; have z5 : w2.cell? ⟨w.heap.size, 5, none⟩ = some (.slice A' n' c') := b2.cell 5 rfl; have HB2 := Lib.hid hb02; clear b2 hb2 hb02))
    go_wp2
    go_ret
    exact ⟨ret_bool (by simp), HB2.out⟩

set_option maxHeartbeats 1000000 in
theorem MayNo (A : Option Addr) (n c : Nat) (A' : Option Addr) (n' c' : Nat) (k : Int) (nm to : List UInt8) (q : Int) (w : World) (hk : k < 0 ∨ 5 ≤ k) :
    Calls Tryz.prog 55 #[prV k nm to q A n c A' n' c'] w (TestEnd w false) := by
  have hbx : Below w.heap.size w (box w k nm to q A n c A' n' c') := (Below.refl _ _).alloc (Nat.le_refl _) _
  have HBX := Lib.hid hbx; clear hbx
  by_cases h0 : k < 0
  · go_enter Tryz.func55, Tryz.ntmps55
    go_wp2
    go_ret
    exact ⟨rfl, HBX.out⟩
  · have h5 : 5 ≤ k := by omega
    have h6 : ¬ k < 5 := by omega
    go_enter Tryz.func55, Tryz.ntmps55
    go_wp2
    go_ret
    exact ⟨rfl, HBX.out⟩

theorem MayP (A : Option Addr) (n c : Nat) (A' : Option Addr) (n' c' : Nat) (p : Ch) (w : World) (b : Bool) (hv : PV w w.heap.size A n c A' n' c' p) (hb : mayP p = b) :
    Calls Tryz.prog 55 #[prV p.k p.nm p.to p.h.pos A n c A' n' c'] w (TestEnd w b) := by
  obtain ⟨k, nm, to, h⟩ := p
  dsimp only at hv ⊢
  rcases kinds k with rfl | rfl | rfl | rfl | rfl | ⟨e0, e1, e2, e3, e4⟩
  · have h1 := MayP0 A n c A' n' c' nm to h.pos w (name nm) (decide (to = []) && noH h) hv.nm rfl (fun w1 hb1 => namesOne A n c A' n' c' 0 nm to h.pos h w1 _ rfl (hv_mv hv.h hb1) rfl)
    rw [← hb]; exact h1
  · have h1 := MayP1 A n c A' n' c' nm to h.pos w (name nm) (decide (to = []) && noH h) hv.nm rfl (fun w1 hb1 => namesOne A n c A' n' c' 1 nm to h.pos h w1 _ rfl (hv_mv hv.h hb1) rfl)
    rw [← hb]; exact h1
  · have h1 := MayP2 A n c A' n' c' nm to h.pos w (name nm) (name to && (decide (to ≠ nm) && noH h)) hv.nm rfl (fun w1 hb1 => namesTwo A n c A' n' c' 2 nm to h.pos h w1 _ hv.to rfl (hv_mv hv.h hb1) rfl)
    rw [← hb]; exact h1
  · have h1 := MayP3 A n c A' n' c' nm to h.pos w (name nm) (decide (to = []) && mayH h) hv.nm rfl (fun w1 hb1 => hasHunk A n c A' n' c' 3 nm to h.pos h w1 _ rfl (hv_mv hv.h hb1) rfl)
    rw [← hb]; exact h1
  · have h1 := MayP4 A n c A' n' c' nm to h.pos w (name nm) (decide (to = []) && (mayH h && decide (h.pos = 0))) hv.nm rfl (fun w1 hb1 => hasLines A n c A' n' c' 4 nm to h.pos h w1 _ rfl (hv_mv hv.h hb1) rfl)
    rw [← hb]; exact h1
  · rw [beq_eq_false_iff_ne] at e0 e1 e2 e3 e4
    have hf : mayP ⟨k, nm, to, h⟩ = false := by simp [mayP, e0, e1, e2, e3, e4]
    rw [← hb, hf]
    exact MayNo A n c A' n' c' k nm to h.pos w (by omega)

end Pr
end Go.Proofs.YtfnhjflocfmcoaaGreat

set_option maxRecDepth 100000
namespace Go.Proofs.YtfnhjflocfmcoaaGreat
open Go.RowKit
set_option linter.unusedVariables false
set_option linter.unusedSimpArgs false
namespace Pr
open Tx Df Sq Hk Tr

section
variable {w W X Y : World} {base n T b : Nat} {A : Option Addr} {k : Nat} {xs : List Value}
end

/-- How Turn ends: the same as PTEnd, of lines in memory of their own. -/
def PTEndH (w : World) (q : Ch) (e : Ending) (w' : World) : Prop :=
  ∃ A n c A' n' c', e = .returned (prV q.k q.nm q.to q.h.pos A n c A' n' c') ∧ PV w' w'.heap.size A n c A' n' c' q ∧ q.h.old.length = n ∧ q.h.new.length = n' ∧ (Hi w.heap.size A ∧ Hi w.heap.size A') ∧ Below w.heap.size w w'
theorem PTEndH.end_ {w w' : World} {q : Ch} {e : Ending} (h : PTEndH w q e w') : PTEnd w q e w' := by
  obtain ⟨A, n, c, A', n', c', h1, h2, h3, h4, _, h5⟩ := h
  exact ⟨A, n, c, A', n', c', h1, h2, h3, h4, h5⟩
end Pr
end Go.Proofs.YtfnhjflocfmcoaaGreat

set_option maxRecDepth 100000
namespace Go.Proofs.YtfnhjflocfmcoaaGreat
open Go.RowKit
set_option linter.unusedVariables false
namespace Tr
open Tx

/-- How Insert ends: a new row. -/
def InsEnd (w : World) (n i : Nat) (xs ys : List Value) (e : Ending) (w' : World) : Prop :=
  ∃ g cap, e = .returned (.slice (some ⟨g, 0, none⟩) (n + 1) cap) ∧ w'.ownsRow w.heap.size 51 2 (.slice (some ⟨g, 0, none⟩) (n + 1) cap) (n + 1) (xs.take (i * 2) ++ (ys ++ xs.drop (i * 2))) ∧ Below w.heap.size w w'

theorem run_append_type {P : Program} {w : World} {t tx ty e e' : TypeId} {i : TypeInfo} {b : Option Addr} {n c : Nat} {x : Value} (ht : P.underlying t = some (.slice e)) (hx : P.underlying tx = some (.slice e')) (hi : P.info? e = some i) :
    (Builtin.append_ #[t, tx] ty #[.slice b n c, x]).run P w = (Builtin.append_ #[t, t] ty #[.slice b n c, x]).run P w := by
  simp [Builtin.append_, run_underlying ht, run_underlying hx, sizeOf, typeInfo, hi]

theorem splice_end {α : Type} {P D X : List α} {p : Nat} (h : P.length = p) (h2 : D.length ≤ X.length) : splice (P ++ D) p X = P ++ X := by
  unfold splice
  subst h
  rw [List.take_left, List.drop_of_length_le (by rw [List.length_append]; omega), List.append_nil]

theorem own_form {w : World} {base e size n : Nat} {v : Value} {xs : List Value} (h : w.ownsRow base e size v n xs) (hn : 0 < n) : ∃ g cap, v = .slice (some ⟨g, 0, none⟩) n cap := by
  rcases h.2 with ⟨_, h0⟩ | ⟨g, cap, cur, rfl, _⟩
  · omega
  · exact ⟨g, cap, rfl⟩

set_option maxHeartbeats 2000000 in
/-- At the end: an append. -/
theorem Insert_end (g n base B vb : Nat) (xs ys : List Value) (w : World) (hn : n ≤ 3518437208800) (hrow : w.ownsRow base 51 2 (.slice (some ⟨g, 0, none⟩) n n) n xs) (hv : ∀ j u, ys[j]? = some u → w.cell? ((⟨vb, 0, none⟩ : Addr).add j) = some u) (hy : ys.length = 2) :
    Calls Tryz.prog 126 #[.slice (some ⟨g, 0, none⟩) n n, .int .i64 (n : Int), .slice (some ⟨vb, 0, none⟩) 1 1] w (InsEnd w n n xs ys) := by
  obtain ⟨i0, hi0, hz0, hz1, hz2⟩ := info_parts info_file
  have HROW := Lib.hid hrow
  have HV := Lib.hid hv
  have HY := Lib.hid hy
  clear hrow hv hy
  obtain ⟨v', w', hrun, hown, hg⟩ := run_append_arg_grows (P := Tryz.prog) w 43 43 51 i0 _ 2 40 Tryz.underlying43 hi0 hz0 hz1 hz2 rfl (by decide) ⟨g, 0, none⟩ n n xs HROW.out.1 (HROW.out.cells rfl) ⟨vb, 0, none⟩ 1 1 ys (by rw [HY.out]) HV.out (by omega) (by unfold maxLen; omega) (by omega)
  obtain ⟨g', cap, rfl⟩ := own_form hown (by omega)
  rw [← run_append_type Tryz.underlying43 Tryz.underlying42 hi0] at hrun
  have HO := Lib.hid hown; have HG := Lib.hid hg; have HRUN := Lib.hid hrun
  clear hown hg hrun
  go_enter Tryz.func126, Tryz.ntmps126
  go_wp2_with (at_builtin; refine Lib.wpList_append_run _ rfl _ _ _ _ rfl _ _ rfl rfl _ _ HRUN.out ?_)
  go_ret
  refine ⟨g', cap, rfl, ?_, below_gr HG.out⟩
  rw [List.take_of_length_le (by rw [HROW.out.1]; exact Nat.le_refl _), List.drop_of_length_le (by rw [HROW.out.1]; exact Nat.le_refl _), List.append_nil]
  exact HO.out

set_option maxRecDepth 100000 in
set_option maxHeartbeats 4000000 in
/-- Ahead of the end. -/
theorem Insert_mid (g n i base vb : Nat) (xs ys : List Value) (w : World) (hn : n ≤ 3518437208800) (hi : i < n) (hrow : w.ownsRow base 51 2 (.slice (some ⟨g, 0, none⟩) n n) n xs) (hv : ∀ j u, ys[j]? = some u → w.cell? ((⟨vb, 0, none⟩ : Addr).add j) = some u) (hy : ys.length = 2) (h1x : ∀ u ∈ xs, u.oneCell' = true) (h1y : ∀ u ∈ ys, u.oneCell' = true) (hvb : vb < w.heap.size) :
    Calls Tryz.prog 126 #[.slice (some ⟨g, 0, none⟩) n n, .int .i64 (i : Int), .slice (some ⟨vb, 0, none⟩) 1 1] w (InsEnd w n i xs ys) := by
  obtain ⟨i0, hi0, hz0, hz1, hz2⟩ := info_parts info_file
  have hrz : ∀ ty, ∃ G Z, (Builtin.append_ #[43, 3] ty #[.slice (some ⟨g, 0, none⟩) i n, .int .i64 ((n : Int) + 1 - (i : Int))]).run Tryz.prog w =
      .ok (.slice (some ⟨w.heap.size, 0, none⟩) (n + 1) G) (w.drew.alloc (.cells ((xs.take (i * 2)).toArray ++ Z) 51)) ∧ ((xs.take (i * 2)).toArray ++ Z).size = G * 2 ∧ n + 1 ≤ G ∧ G ≤ maxLen := by
    intro ty
    have h := Lib.run_append_grow_zeros (P := Tryz.prog) w 43 3 ty 51 i0 _ .i64 .i64 Tryz.underlying43 Tryz.underlying3 hi0 hz0 (some ⟨g, 0, none⟩) i n (xs.take (i * 2)) (by
      have := run_loadCells_list (P := Tryz.prog) w.drew ⟨g, 0, none⟩ (xs.take (i * 2)) (fun j u hu => by
        rw [List.getElem?_take] at hu
        split at hu
        · exact hrow.cells rfl j u hu
        · cases hu)
      rw [List.length_take, hrow.1, Nat.min_eq_left (by omega)] at this
      simp only [Builtin.firstCells, hz1]
      exact this) (n + 1 - i) (by omega) (by rw [hz1]; decide) (by omega) (by omega) (by rw [hz2]; omega) (by
        rw [hz2]
        exact growslice_fits (by omega) (by omega))
    rw [show i + (n + 1 - i) = n + 1 by omega, show ((n + 1 - i : Nat) : Int) = (n : Int) + 1 - (i : Int) by omega, Array.append_assoc] at h
    have hge := grownCap_ge w (n + 1) n 51
    refine ⟨_, _, h, ?_, hge, grownCap_le_maxLen w (n + 1) n 51 (by unfold maxLen; omega)⟩
    simp only [Array.size_append, List.size_toArray, size_zeroCells, List.length_take, hrow.1, show (Value.agg #[.string ⟨#[]⟩, .slice none 0 0]).cells.size = 2 from rfl]
    omega
  obtain ⟨G, Z, hrun, hZs, hnG, hGm⟩ := hrz 43
  clear hrz
  obtain ⟨R, hR⟩ : ∃ R, (xs.take (i * 2)).toArray ++ Z = R := ⟨_, rfl⟩
  rw [hR] at hrun hZs
  obtain ⟨W1, hW1⟩ : ∃ W1, w.drew.alloc (.cells R 51) = W1 := ⟨_, rfl⟩
  rw [hW1] at hrun
  obtain ⟨h, hh⟩ : ∃ h, w.heap.size = h := ⟨_, rfl⟩
  have hb1 : Below w.heap.size w W1 := by rw [← hW1]; exact (below_drewN (Below.refl _ w) 1).alloc (Nat.le_refl _) _
  have ho1 : W1.ownsRow w.heap.size 51 2 (.slice (some ⟨h, 0, none⟩) (n + 1) G) (n + 1) (R.toList.take ((n + 1) * 2)) := by
    refine ⟨?_, .inr ⟨h, G, R, rfl, Nat.le_of_eq hh, ?_, hnG, hGm, hZs, rfl⟩⟩
    · rw [List.length_take, Array.length_toList, hZs]; omega
    · rw [← hW1, ← hh]; exact heap_alloc_new w.drew _
  have hL : (R.toList.take ((n + 1) * 2)).take (i * 2) = xs.take (i * 2) := by
    rw [List.take_take, Nat.min_eq_left (by omega), ← hR]
    have hl : (xs.take (i * 2)).length = i * 2 := by rw [List.length_take, hrow.1]; omega
    simp only [Array.toList_append]
    rw [List.take_append_of_le_length (by rw [hl]; exact Nat.le_refl _), List.take_take, Nat.min_self]
  obtain ⟨L, hLe⟩ : ∃ L, R.toList.take ((n + 1) * 2) = L := ⟨_, rfl⟩
  rw [hLe] at ho1 hL
  have hLn := ho1.1
  have hgw : g < w.heap.size := (hrow.lt g rfl).2
  have hxl := hrow.1
  rw [hh] at hrun hb1 ho1 hgw hvb
  -- the sources
  have hs1 : ys = [] ∨ ∃ a, (some (⟨vb, 0, none⟩ : Addr)) = some a ∧ ∀ j u, ys[j]? = some u → W1.cell? (a.add j) = some u := .inr ⟨_, rfl, fun j u hu => (hb1.cell (by rw [add_block]; exact hvb)).trans (hv j u hu)⟩
  have hs2 : ∀ W2, W1.grownBy W2 (some h) → xs.drop (i * 2) = [] ∨ ∃ a, (some (⟨g, i * 2, none⟩ : Addr)) = some a ∧ ∀ j u, (xs.drop (i * 2))[j]? = some u → W2.cell? (a.add j) = some u := fun W2 hg2 => .inr ⟨_, rfl, fun j u hu => by
    rw [List.getElem?_drop] at hu
    have e1 : (⟨g, i * 2, none⟩ : Addr).add j = (⟨g, 0, none⟩ : Addr).add (i * 2 + j) := by unfold Addr.add; split <;> split <;> simp_all <;> omega
    rw [e1]
    refine cell_gr hg2 (by rw [add_block]; exact fun e => by injection e with e; have e : g = h := e; omega) ((hb1.cell (by rw [add_block]; exact hgw)).trans (hrow.cells rfl _ u hu))⟩
  have hfin : splice (splice L (i * 2) ys) ((i + 1) * 2) (xs.drop (i * 2)) = xs.take (i * 2) ++ (ys ++ xs.drop (i * 2)) := by
    have e1 : splice L (i * 2) ys = (xs.take (i * 2) ++ ys) ++ L.drop (i * 2 + ys.length) := by unfold splice; rw [hL, List.append_assoc]
    have e2 : (xs.take (i * 2) ++ ys).length = (i + 1) * 2 := by rw [List.length_append, List.length_take, hy]; omega
    rw [e1, splice_end e2 (by rw [List.length_drop, List.length_drop, hLn, hxl, hy]; omega), List.append_assoc]
  have hn1 : ys.length = Nat.min 1 (n + 1 - i) * 2 := by rw [hy, show Nat.min 1 (n + 1 - i) = 1 from Nat.min_eq_left (by omega)]
  have hn2 : (xs.drop (i * 2)).length = Nat.min (n - i) (n + 1 - (i + 1)) * 2 := by rw [List.length_drop, hxl, show Nat.min (n - i) (n + 1 - (i + 1)) = n - i from Nat.min_eq_left (by omega)]; omega
  have hf1 : i * 2 + ys.length ≤ (n + 1) * 2 := by rw [hy]; omega
  have hf2 : (i + 1) * 2 + (xs.drop (i * 2)).length ≤ (n + 1) * 2 := by rw [List.length_drop, hxl]; omega
  have h1d : ∀ u ∈ xs.drop (i * 2), u.oneCell' = true := fun u hu => h1x u (List.mem_of_mem_drop hu)
  have hGi : ¬ G = i := by omega
  have hGi2 : ¬ G = i + 1 := by omega
  have hni : ¬ n = i := by omega
  have hG63 : G ≤ 9223372036854775807 := by unfold maxLen at hGm; omega
  obtain ⟨X, hX⟩ : ∃ X, xs.drop (i * 2) = X := ⟨_, rfl⟩
  rw [hX] at hs2 hfin hn2 hf2 h1d
  have HRUN := Lib.hid hrun; have HO1 := Lib.hid ho1; have HS1 := Lib.hid hs1; have HS2 := Lib.hid hs2; have HFIN := Lib.hid hfin; have HN1 := Lib.hid hn1; have HN2 := Lib.hid hn2; have HF1 := Lib.hid hf1; have HF2 := Lib.hid hf2; have H1D := Lib.hid h1d; have H1Y := Lib.hid h1y; have HB1 := Lib.hid hb1; have HX := Lib.hid hX; have HH := Lib.hid hh; have HZ1 := Lib.hid hz1
  clear hrun ho1 hs1 hs2 hfin hn1 hn2 hf1 hf2 h1d h1y hb1 hX hh hz1 hz0 hz2 hR hZs hLe hL hLn hxl hrow hv hy h1x hW1 hnG hGm hgw hvb
  go_enter Tryz.func126, Tryz.ntmps126
  go_wp2_with (first
    | (at_builtin; refine Lib.wpList_append_run _ rfl _ _ _ _ rfl _ _ rfl rfl _ _ HRUN.out ?_)
    | (refine wpList_copy_own' (o := ⟨some 45, _, _, _, _, _⟩) rfl _ _ _ _ rfl 51 i0 h 2 h (i * 2) (n + 1) G (n + 1 - i) (G - i) 1 1 (some ⟨vb, 0, none⟩) L ys Tryz.underlying43 hi0 HZ1.out rfl rfl HO1.out HN1.out HS1.out HF1.out H1Y.out ?_; intro W2 ho2 hg2; have HO2 := Lib.hid ho2; have HG2 := Lib.hid hg2; clear ho2 hg2))
  have hO2d : (W2.drew).ownsRow h 51 2 (.slice (some ⟨h, 0, none⟩) (n + 1) G) (n + 1) (splice L (i * 2) ys) := HO2.out
  have hs2d : X = [] ∨ ∃ a, (some (⟨g, i * 2, none⟩ : Addr)) = some a ∧ ∀ j u, X[j]? = some u → W2.drew.cell? (a.add j) = some u := HS2.out W2 HG2.out
  have HO2D := Lib.hid hO2d; have HS2D := Lib.hid hs2d
  clear hO2d hs2d
  have hw1 : IntKind.i64.wrap ((i : Int) + 1) = (i : Int) + 1 := IntWalk.i64_in _ (by omega)
  have hb1 : (0 : Int) ≤ (i : Int) + 1 := by omega
  have htn : ((i : Int) + 1).toNat = i + 1 := by omega
  have hin : i ≤ n := by omega
  have hib : (i : Int) + 1 ≤ (n : Int) + 1 := by omega
  go_region_law (refine step_copy_own rfl _ _ _ _ rfl 51 i0 h 2 h ((i + 1) * 2) (n + 1) G (n + 1 - (i + 1)) (G - (i + 1)) (n - i) (n - i) (some ⟨g, i * 2, none⟩) (splice L (i * 2) ys) X Tryz.underlying43 hi0 HZ1.out (by simp [Act.eval, Act.put]) (by simp [Act.eval, Act.put]) HO2D.out HN2.out HS2D.out HF2.out H1D.out ?_; intro W3 ho3 hg3; have HO3 := Lib.hid ho3; have HG3 := Lib.hid hg3; clear ho3 hg3)
  clear hw1 hb1 htn hin hib
  go_wp2
  go_ret
  refine ⟨h, G, rfl, ?_, ?_⟩
  · rw [HH.out, HX.out, ← HFIN.out]; exact HO3.out
  · rw [HH.out]
    have hz : h ≤ W1.heap.size := by have := HB1.out.size; rw [HH.out] at this; exact this
    exact (HB1.out.grown HG2.out hz (fun k e => by injection e with e; omega)).grown (gr_of_drewN (d := 1) HG3.out) (Nat.le_trans hz HG2.out.size) (fun k e => by injection e with e; omega)

/-- Insert of one file. -/
theorem Insert (g n i base vb : Nat) (xs ys : List Value) (w : World) (hn : n ≤ 3518437208800) (hi : i ≤ n) (hrow : w.ownsRow base 51 2 (.slice (some ⟨g, 0, none⟩) n n) n xs) (hv : ∀ j u, ys[j]? = some u → w.cell? ((⟨vb, 0, none⟩ : Addr).add j) = some u) (hy : ys.length = 2) (h1x : ∀ u ∈ xs, u.oneCell' = true) (h1y : ∀ u ∈ ys, u.oneCell' = true) (hvb : vb < w.heap.size) :
    Calls Tryz.prog 126 #[.slice (some ⟨g, 0, none⟩) n n, .int .i64 (i : Int), .slice (some ⟨vb, 0, none⟩) 1 1] w (InsEnd w n i xs ys) := by
  by_cases e : i = n
  · subst e
    exact Insert_end g i base 0 vb xs ys w hn hrow hv hy
  · exact Insert_mid g n i base vb xs ys w hn (by omega) hrow hv hy h1x h1y hvb

end Tr
end Go.Proofs.YtfnhjflocfmcoaaGreat

set_option maxRecDepth 100000
namespace Go.Proofs.YtfnhjflocfmcoaaGreat
open Go.RowKit
set_option linter.unusedVariables false
namespace Tr
open Tx

/-- How Delete ends: in place. -/
def DeleteEnd (w : World) (base g n i : Nat) (xs : List Value) (e : Ending) (w' : World) : Prop :=
  e = .returned (.slice (some ⟨g, 0, none⟩) (i + (n - (i + 1))) n) ∧ w'.ownsRow base 51 2 (.slice (some ⟨g, 0, none⟩) (i + (n - (i + 1))) n) (i + (n - (i + 1))) (xs.take (i * 2) ++ xs.drop ((i + 1) * 2)) ∧ w.grownBy w' (some g)

theorem gr_two {W W1 W2 : World} {row : Option Nat} (h1 : W.grownBy W1 row) (h2 : W1.grownBy W2 row) : W.grownBy W2 row :=
  ⟨h2.os.trans h1.os, h2.tape.trans h1.tape, h2.output.trans h1.output, Nat.le_trans h1.size h2.size, fun i hi hne => (h2.block i (Nat.lt_of_lt_of_le hi h1.size) hne).trans (h1.block i hi hne)⟩
theorem file_zero_one (j : Nat) : Value.oneCell' ((Value.agg #[.string ⟨#[]⟩, .slice none 0 0]).cells[j % (Value.agg #[.string ⟨#[]⟩, .slice none 0 0]).cells.size]!) = true := by
  rw [show (Value.agg #[.string ⟨#[]⟩, .slice none 0 0]).cells.size = 2 from rfl]
  rcases Nat.mod_two_eq_zero_or_one j with e | e <;> rw [e] <;> rfl
theorem delete_cells {L xs X : List Value} {n i m : Nat} (hm : m = i + (n - (i + 1))) (hX : X = xs.drop ((i + 1) * 2)) (hx : xs.length = n * 2) (hi : i < n) {ys : List Value} (hL : L = splice xs (i * 2) X) (hy : ys.take (m * 2) = L.take (m * 2)) : ys.take (m * 2) = xs.take (i * 2) ++ xs.drop ((i + 1) * 2) := by
  rw [hy, hL]
  unfold splice
  rw [← List.append_assoc, List.take_append_of_le_length, List.take_of_length_le, hX]
  · rw [List.length_append, List.length_take, hX, List.length_drop, hx]; omega
  · rw [List.length_append, List.length_take, hX, List.length_drop, hx]; omega

set_option maxRecDepth 100000 in
set_option maxHeartbeats 4000000 in
theorem Delete (g n i base : Nat) (xs : List Value) (w : World) (hn : n ≤ 3518437208800) (hi : i < n) (hrow : w.ownsRow base 51 2 (.slice (some ⟨g, 0, none⟩) n n) n xs) (h1x : ∀ u ∈ xs, u.oneCell' = true) :
    Calls Tryz.prog 128 #[.slice (some ⟨g, 0, none⟩) n n, .int .i64 (i : Int), .int .i64 ((i : Int) + 1)] w (DeleteEnd w base g n i xs) := by
  obtain ⟨i0, hi0, hz0, hz1, hz2⟩ := info_parts info_file
  have hxl := hrow.1
  obtain ⟨X, hX⟩ : ∃ X, X = xs.drop ((i + 1) * 2) := ⟨_, rfl⟩
  have hXl : X.length = (n - (i + 1)) * 2 := by rw [hX, List.length_drop, hxl]; omega
  have hX1 : ∀ u ∈ X, u.oneCell' = true := fun u hu => h1x u (by rw [hX] at hu; exact List.mem_of_mem_drop hu)
  have hrowd : w.drew.ownsRow base 51 2 (.slice (some ⟨g, 0, none⟩) n n) n xs := hrow
  have hsrc : ∀ j u, X[j]? = some u → w.drew.cell? ((⟨g, (i + 1) * 2, none⟩ : Addr).add j) = some u := fun j u hu => by
    rw [hX, List.getElem?_drop] at hu
    have e1 : (⟨g, (i + 1) * 2, none⟩ : Addr).add j = (⟨g, 0, none⟩ : Addr).add ((i + 1) * 2 + j) := by rw [Addr.add_lit, Addr.add_lit, Nat.zero_add]
    rw [e1]
    exact hrow.cells rfl _ u hu
  have hsrc2 : n = i + 1 → ∀ j u, X[j]? = some u → w.drew.cell? ((⟨g, 0, none⟩ : Addr).add j) = some u := fun e j u hu => by
    have : X = [] := List.eq_nil_of_length_eq_zero (by rw [hXl, e]; omega)
    rw [this] at hu; simp at hu
  obtain ⟨L, hL⟩ : ∃ L, L = splice xs (i * 2) X := ⟨_, rfl⟩
  have hdc := fun ys (h : ys.take ((i + (n - (i + 1))) * 2) = L.take ((i + (n - (i + 1))) * 2)) => delete_cells (ys := ys) rfl hX hxl hi hL h
  have HD := Lib.hid hdc; have HX1 := Lib.hid hX1; have HXL := Lib.hid hXl; have HROW := Lib.hid hrowd; have HS := Lib.hid hsrc; have HS2 := Lib.hid hsrc2; have HL := Lib.hid hL; have HZ0 := Lib.hid hz0; have HZ1 := Lib.hid hz1
  clear hdc hX1 hXl hrow hrowd hsrc hsrc2 hL hX h1x hxl hz0 hz1 hz2
  have hw1 : IntKind.i64.wrap ((i : Int) + 1) = (i : Int) + 1 := IntWalk.i64_in _ (by omega)
  have hb1 : (0 : Int) ≤ (i : Int) + 1 := by omega
  have hb2 : (i : Int) + 1 ≤ (n : Int) := by omega
  have hb3 : (i : Int) ≤ (i : Int) + 1 := by omega
  have htn : ((i : Int) + 1).toNat = i + 1 := by omega
  have hni : ¬ (i : Int) = (i : Int) + 1 := by omega
  have hin : i ≤ n := by omega
  have hki : i + (n - (i + 1)) ≤ n := by omega
  have hko : n - (i + (n - (i + 1))) = 1 := by omega
  have hne : ¬ n = i + (n - (i + 1)) := by omega
  rcases Classical.em (n = i + 1) with hc | hc
  · have e0 : n - (i + 1) = 0 := by omega
    rw [e0, Nat.add_zero] at HD hki hko hne
    rw [e0] at HXL
    have HE : Hid (∀ e w', DeleteEnd w base g n i xs e w' = (e = .returned (.slice (some ⟨g, 0, none⟩) i n) ∧ w'.ownsRow base 51 2 (.slice (some ⟨g, 0, none⟩) i n) i (xs.take (i * 2) ++ xs.drop ((i + 1) * 2)) ∧ w.grownBy w' (some g))) := Lib.hid (fun e w' => by unfold DeleteEnd; rw [e0, Nat.add_zero])
    have HS3 := Lib.hid (HS2.out hc)
    clear e0
    subst hc
    go_enter Tryz.func128, Tryz.ntmps128
    go_wp2_with fail
    go_region_law (refine step_append_own_room rfl _ _ _ rfl 51 i0 base 2 g (i + 1) (i + 1) i 0 0 ⟨g, 0, none⟩ xs X Tryz.underlying43 hi0 HZ1.out (by simp [Act.eval, Act.put]) (by simp [Act.eval, Act.put]) HROW.out HXL.out HS3.out HX1.out hin (Nat.le_refl _) ?_; intro W1 ho1 hg1; have HO1 := Lib.hid ho1; have HG1 := Lib.hid hg1; clear ho1 hg1)
    rw [← HL.out] at HO1
    clear hw1 hb1 hb2 hb3 htn
    go_wp2_with (refine wpList_clear_own (o := ⟨none, _, _, _, _, _⟩) rfl _ _ rfl 51 i0 _ base 2 g (i * 2) (i + 1) (i + 1) 1 _ L Tryz.underlying43 hi0 HZ0.out rfl file_zero_one (by omega) rfl HO1.out (by omega) ?_; intro W2 ys ho2 hy2 hg2; have HO2 := Lib.hid ho2; have HY2 := Lib.hid hy2; have HG2 := Lib.hid hg2; clear ho2 hy2 hg2)
    go_ret
    rw [HE.out]
    refine ⟨rfl, ?_, gr_two (gr_of_drewN (d := 1) HG1.out) HG2.out⟩
    rw [← HD.out ys HY2.out]
    exact own_less HO2.out (by omega)
  · go_enter Tryz.func128, Tryz.ntmps128
    go_wp2_with fail
    go_region_law (refine step_append_own_room rfl _ _ _ rfl 51 i0 base 2 g n n i (n - (i + 1)) (n - (i + 1)) ⟨g, (i + 1) * 2, none⟩ xs X Tryz.underlying43 hi0 HZ1.out (by simp [Act.eval, Act.put]) (by simp [Act.eval, Act.put]) HROW.out HXL.out HS.out HX1.out hki (Nat.le_refl _) ?_; intro W1 ho1 hg1; have HO1 := Lib.hid ho1; have HG1 := Lib.hid hg1; clear ho1 hg1)
    rw [← HL.out] at HO1
    clear hw1 hb1 hb2 hb3 htn
    go_wp2_with (refine wpList_clear_own (o := ⟨none, _, _, _, _, _⟩) rfl _ _ rfl 51 i0 _ base 2 g ((i + (n - (i + 1))) * 2) n n _ _ L Tryz.underlying43 hi0 HZ0.out rfl file_zero_one (by omega) rfl HO1.out (by omega) ?_; intro W2 ys ho2 hy2 hg2; have HO2 := Lib.hid ho2; have HY2 := Lib.hid hy2; have HG2 := Lib.hid hg2; clear ho2 hy2 hg2)
    go_ret
    refine ⟨rfl, ?_, gr_two (gr_of_drewN (d := 1) HG1.out) HG2.out⟩
    rw [← HD.out ys HY2.out]
    exact own_less HO2.out (by omega)

end Tr
end Go.Proofs.YtfnhjflocfmcoaaGreat

set_option maxRecDepth 100000
namespace Go.Proofs.YtfnhjflocfmcoaaGreat
open Go.RowKit
set_option linter.unusedVariables false
namespace Tr
open Tx

/-- A file in the place of another one. -/
theorem put_upd {w w4 : World} {g n k h m : Nat} {t : TR} {xs : List Value} {s : List UInt8} {l : List (List UInt8)} (hrow : w4.ownsRow w.heap.size 51 2 (.slice (some ⟨g, 0, none⟩) n n) n xs) (hF : FCells w4 (some g) t xs) (hn : t.length = n) (hi : ixF (isN s) t = some k)
    (hm : l.length = m) (hr : RdX w4 (some g) (some ⟨h, 0, none⟩) l) (hb : Below w.heap.size w w4) :
    TreeEnd w (upd t s l) (.returned (.slice (some ⟨g, 0, none⟩) n n)) ((w4.setCell ⟨g, k * 2, none⟩ (strV s)).setCell ⟨g, k * 2 + 1, none⟩ (.slice (some ⟨h, 0, none⟩) m m)) := by
  subst hm
  obtain ⟨hk, _⟩ := ixF_some hi
  have hu := upd_set (l := l) hi
  obtain ⟨⟨xs', r1, r2⟩, r3⟩ := store_file (k := k) (t2 := upd t s l) (x := (s, l)) (A := some ⟨h, 0, none⟩) (c := l.length) hrow hF (fun j y hne hy => by
      rw [hu, List.getElem?_set_ne (fun e => hne e.symm)] at hy
      exact hy) (fun y hy => by
      rw [hu, List.getElem?_set_self hk] at hy
      injection hy with hy
      exact hy.symm) (by omega) (Nat.le_refl _) hr
  have hlen : (upd t s l).length = n := by rw [upd_len]; exact hn
  refine treeEnd_own (base := w.heap.size) ⟨xs', by rw [hlen]; exact r1, r2⟩ ?_
  have hg : w.heap.size ≤ g := (hrow.lt g rfl).1
  exact (hb.setCell (p := ⟨g, k * 2, none⟩) hg _).setCell (p := ⟨g, k * 2 + 1, none⟩) hg _

/-- One file more. -/
theorem put_ins {w w4 W W' : World} {g n p h m : Nat} {t : TR} {xs : List Value} {s : List UInt8} {l : List (List UInt8)} {e : Ending} (hxl : xs.length = n * 2) (hF : FCells w4 (some g) t xs) (hn : t.length = n) (hp : (ixF (gtN s) t).getD n = p)
    (hm : l.length = m) (hr : RdX w4 (some g) (some ⟨h, 0, none⟩) l) (hb : Below w.heap.size w w4) (hbW : Below w4.heap.size w4 W) (he : InsEnd W n p xs [strV s, .slice (some ⟨h, 0, none⟩) m m] e W') :
    TreeEnd w (ins Op.bytesLess t s l) e W' := by
  obtain ⟨g', cap, rfl, hown, hb2⟩ := he
  have hpl : p ≤ t.length := by rw [← hp, ← hn]; exact place_le
  have hF2 := (hF.ins (s := s) (by rw [hn]; exact hxl) hpl hm (Nat.le_refl _) hr)
  have hi : ins Op.bytesLess t s l = t.take p ++ (s, l) :: t.drop p := by rw [ins_ix, ← hn] at *; rw [hp]
  have hsz : w.heap.size ≤ W.heap.size := Nat.le_trans hb.size hbW.size
  have hF3 := hF2.turn (W' := W') (row' := some g') (hbW.trans (hb2.mono hbW.size)) (fun g0 e => by injection e with e; subst e; exact Nat.le_trans hbW.size (hown.lt g' rfl).1)
  rw [← hi] at hF3
  have hlen : (ins Op.bytesLess t s l).length = n + 1 := by rw [ins_len, hn]
  exact treeEnd_own (base := W.heap.size) ⟨_, by rw [hlen]; exact hown, hF3⟩ ((hb.trans (hbW.mono hb.size)).trans (hb2.mono hsz))

set_option maxRecDepth 100000 in
set_option maxHeartbeats 4000000 in
theorem Put (s : List UInt8) (A A' : Option Addr) (c n B m c' : Nat) (t : TR) (l : List (List UInt8)) (w : World) (hn : t.length = n) (hs : Wide t) (hm : l.length = m) (hm5 : m ≤ 8796093022208) (hB : B ≤ w.heap.size) (hR : RdT w B A t) (hR' : RdS w B A' l) :
    Calls Tryz.prog 104 #[.slice A n c, strV s, .slice A' m c'] w (TreeEnd w (put Op.bytesLess t s l)) := by
  have hln : n ≤ 3518437208800 := by rw [← hn]; exact hs.len
  have hI := fun w hB hR => find s A c n B t w hn hln hB hR
  have hP := fun w hB hR => place s A c n B t w hn hln hB hR
  have hG : ixF (isN s) t = none → get t s = none := get_ix_none
  have hG2 : ∀ k, ixF (isN s) t = some k → ∃ x, get t s = some x := fun k h => ⟨_, (get_ix h).2.2.1⟩
  have HN := Lib.hid hn; have HM := Lib.hid hm; have HS := Lib.hid hs; have R := Lib.hid hR; have R' := Lib.hid hR'
  have HI := Lib.hid hI; have HP := Lib.hid hP; have HG := Lib.hid hG; have HG2 := Lib.hid hG2
  clear hn hm hs hR hR' hI hP hG hG2
  go_enter Tryz.func104, Tryz.ntmps104
  go_wp2_with fail
  refine (againT A c n B t w HN.out HS.out hB R.out).mono ?_
  rintro e w1 ⟨rfl, ⟨xs, hrow, hF⟩, hb1⟩
  have HB1 := Lib.hid hb1; have HRW := Lib.hid hrow; have HF := Lib.hid hF
  clear hb1 hrow hF
  go_wp2_with fail
  refine (file s A' c' m B l w1 HM.out hm5 (Nat.le_trans hB HB1.out.size) (Rd.below R'.out (HB1.out.mono hB))).mono ?_
  rintro e w2 ⟨h, rfl, hr2, hb2⟩
  have hrow2 := own_gr HRW.out (below_gr_row hb2)
  have hF2 := HF.out.gr (gr_none (below_gr_row hb2))
  have hgw1 : w.heap.size < w1.heap.size := (HRW.out.lt _ rfl).2
  have hx2 := RdX.own hr2 hgw1
  have HB2 := Lib.hid (HB1.out.trans (hb2.mono HB1.out.size))
  have HRW2 := Lib.hid hrow2; have HF2 := Lib.hid hF2; have HX2 := Lib.hid hx2
  clear hr2 hb2 hrow2 hF2 hx2 HRW HF hgw1 HB1
  obtain ⟨g, hg⟩ : ∃ g, w.heap.size = g := ⟨_, rfl⟩
  have HP1 := Lib.hid (fun (w4 : World) (k : Nat) (hi : ixF (isN s) t = some k) hr ho hF hb => put_upd (w := w) (w4 := w4) (xs := xs) (s := s) (t := t) (n := n) (g := g) (k := k) (h := h) (m := m) (l := l) hr hF HN.out hi HM.out ho hb)
  have HP2 := Lib.hid (fun (w4 W W' : World) (p : Nat) (e : Ending) (hp : (ixF (gtN s) t).getD n = p) hF ho hb hbW he => put_ins (w := w) (w4 := w4) (W := W) (W' := W') (xs := xs) (s := s) (t := t) (n := n) (g := g) (p := p) (h := h) (m := m) (l := l) (e := e) HRW2.out.1 hF HN.out hp HM.out ho hb hbW he)
  have HGB : Hid (∀ W, Below g w W = Below w.heap.size w W) := Lib.hid (fun W => by rw [hg])
  rw [hg] at HB2 HRW2 HF2 HX2 hB ⊢
  have HGS := Lib.hid hg; clear hg
  obtain ⟨o, ho⟩ : ∃ o, ixF (isN s) t = o := ⟨_, rfl⟩
  rw [ho] at HI HG HG2
  have HW2 : Hid (g < w2.heap.size) := Lib.hid (HRW2.out.lt _ rfl).2
  have hbl := Blk.new w2 51 #[strV s, .slice (some ⟨h, 0, none⟩) m m]
  have hb3 : Below w2.heap.size w2 (w2.alloc (.cells #[strV s, .slice (some ⟨h, 0, none⟩) m m] 51)) := (Below.refl _ _).alloc (Nat.le_refl _) _
  have HBL := Lib.hid hbl; have HB3 := Lib.hid hb3
  clear hbl hb3
  cases o with
  | some k =>
    have HO := Lib.hid ho
    have hkn : k < n := by have := (ixF_some ho).1; rw [HN.out] at this; exact this
    clear ho
    go_wp2_with fail
    refine (HI.out (w2.alloc (.cells #[strV s, .slice (some ⟨h, 0, none⟩) m m] 51)) (Nat.le_trans hB (Nat.le_trans (Nat.le_of_lt HW2.out) HB3.out.size)) (R.out.below ((HB2.out.trans (HB3.out.mono (Nat.le_of_lt HW2.out))).mono hB))).mono ?_
    rintro e w4 ⟨rfl, hb4⟩
    simp only [ixV]
    have hg4 : w2.grownBy w4 none := (below_gr_row HB3.out).trans (below_gr_row hb4)
    have hbl4 := HBL.out.below hb4 HBL.out.lt
    have x0 : w4.cell? ⟨w2.heap.size, 0, none⟩ = some (strV s) := hbl4.cell 0 rfl
    have x1 : w4.cell? ⟨w2.heap.size, 1, none⟩ = some (.slice (some ⟨h, 0, none⟩) m m) := hbl4.cell 1 rfl
    obtain ⟨v0, v1, y0, y1, f0, f1⟩ := file_cells (own_gr HRW2.out hg4) hkn
    have he := HP1.out w4 k HO.out (by rw [HGS.out]; exact own_gr HRW2.out hg4) (HX2.out.gr (gr_none hg4)) (HF2.out.gr (gr_none hg4)) (by rw [← HGB.out]; exact HB2.out.grown hg4 (Nat.le_of_lt HW2.out) (fun k e => by cases e))
    have HE := Lib.hid he
    have hput : put Op.bytesLess t s l = upd t s l := by
      obtain ⟨y, hy⟩ := HG2.out k rfl
      unfold put; rw [hy]; rfl
    have HPUT := Lib.hid hput
    clear he hbl4 hg4 hb4 hput
    go_wp2
    go_ret
    rw [HPUT.out]
    exact HE.out
  | none =>
    clear ho
    go_wp2_with fail
    refine (HI.out (w2.alloc (.cells #[strV s, .slice (some ⟨h, 0, none⟩) m m] 51)) (Nat.le_trans hB (Nat.le_trans (Nat.le_of_lt HW2.out) HB3.out.size)) (R.out.below ((HB2.out.trans (HB3.out.mono (Nat.le_of_lt HW2.out))).mono hB))).mono ?_
    rintro e w4 ⟨rfl, hb4⟩
    simp only [ixV]
    have hg4 : w2.grownBy w4 none := (below_gr_row HB3.out).trans (below_gr_row hb4)
    have hbl4 := HBL.out.below hb4 HBL.out.lt
    obtain ⟨fb, hfb⟩ : ∃ fb, w2.heap.size = fb := ⟨_, rfl⟩
    rw [hfb] at hbl4 ⊢
    have x0 : w4.cell? ⟨fb, 0, none⟩ = some (strV s) := hbl4.cell 0 rfl
    have x1 : w4.cell? ⟨fb, 1, none⟩ = some (.slice (some ⟨h, 0, none⟩) m m) := hbl4.cell 1 rfl
    have hrow4 := own_gr HRW2.out hg4
    have hF4 := HF2.out.gr (gr_none hg4)
    have hx4 := HX2.out.gr (gr_none hg4)
    have hbb4 : Below g w w4 := HB2.out.grown hg4 (Nat.le_of_lt HW2.out) (fun k e => by cases e)
    have hput : put Op.bytesLess t s l = ins Op.bytesLess t s l := by unfold put; rw [HG.out (by trivial)]; rfl
    have hg4s : g ≤ w4.heap.size := Nat.le_of_lt (hrow4.lt g rfl).2
    have hone := hF4.one_cell (by rw [HN.out]; exact hrow4.1)
    obtain ⟨p, hp⟩ : ∃ p, (ixF (gtN s) t).getD n = p := ⟨_, rfl⟩
    have hpn : p ≤ n := by rw [← hp, ← HN.out]; exact place_le
    have hEND := fun (W W' : World) (e : Ending) (hbW : Below w4.heap.size w4 W) (he : InsEnd W n p xs [strV s, .slice (some ⟨h, 0, none⟩) m m] e W') => HP2.out w4 W W' p e hp hF4 hx4 (by rw [← HGB.out]; exact hbb4) hbW he
    rw [hp] at HP
    have hPL : ∀ W, Below w4.heap.size w4 W → Calls Tryz.prog 127 #[.slice A n c, strV s] W (IntEnd W (p : Int)) := fun W hb => HP.out W (Nat.le_trans hB (Nat.le_trans hg4s hb.size)) (R.out.below ((hbb4.trans (hb.mono hg4s)).mono hB))
    have hINS : ∀ W vb, Below w4.heap.size w4 W → Blk W vb 51 #[strV s, .slice (some ⟨h, 0, none⟩) m m] → Calls Tryz.prog 126 #[.slice (some ⟨g, 0, none⟩) n n, .int .i64 (p : Int), .slice (some ⟨vb, 0, none⟩) 1 1] W (InsEnd W n p xs [strV s, .slice (some ⟨h, 0, none⟩) m m]) := fun W vb hb hv =>
      Insert g n p g vb xs _ W hln hpn (own_gr hrow4 (below_gr_row hb)) (World.news_of_block (cs := #[strV s, .slice (some ⟨h, 0, none⟩) m m]) (t := 51) (fr := (0, 0)) hv) rfl hone (by simp [Value.oneCell']) hv.lt
    have HEND := Lib.hid hEND; have HPL := Lib.hid hPL; have HINS := Lib.hid hINS; have HPUT := Lib.hid hput
    clear hEND hPL hINS hput hg4s hone hbb4 hx4 hF4 hrow4 hbl4 hg4 hb4 hfb HP1 HP2 HGB HI HG HG2 HBL HB3 HRW2 HF2 HX2 HB2
    have HX : Hid (∀ W, Below w4.heap.size w4 W → W.cell? ⟨fb, 0, none⟩ = some (strV s) ∧ W.cell? ⟨fb, 1, none⟩ = some (.slice (some ⟨h, 0, none⟩) m m)) := Lib.hid (fun W hb => ⟨(hb.cell (p := ⟨fb, 0, none⟩) (World.block_lt_of_cell? w4 _ x0)).trans x0, (hb.cell (p := ⟨fb, 1, none⟩) (World.block_lt_of_cell? w4 _ x1)).trans x1⟩)
    have HB0 : Hid (Below w4.heap.size w4 w4.drew) := Lib.hid (below_drewN (Below.refl _ w4) 1)
    have HBA : Hid (Below w4.heap.size w4 (w4.alloc (.cells #[strV s, .slice (some ⟨h, 0, none⟩) m m] 51)).drew) := Lib.hid (below_drewN ((Below.refl _ w4).alloc (Nat.le_refl _) _) 1)
    have HVA : Hid (Blk (w4.alloc (.cells #[strV s, .slice (some ⟨h, 0, none⟩) m m] 51)).drew w4.heap.size 51 #[strV s, .slice (some ⟨h, 0, none⟩) m m]) := Lib.hid (Blk.new w4 _ _)
    have hS0 := HX.out w4.drew HB0.out
    have hSA := HX.out (w4.alloc (.cells #[strV s, .slice (some ⟨h, 0, none⟩) m m] 51)).drew HBA.out
    have hSB := HX.out (w4.alloc (.cells #[strV s, .slice (some ⟨h, 0, none⟩) m m] 51)) ((Below.refl _ w4).alloc (Nat.le_refl _) _)
    go_wp2_with fail
    go_region_held3 (fun W => W.cell? ⟨fb, 0, none⟩ = some (strV s) ∧ W.cell? ⟨fb, 1, none⟩ = some (.slice (some ⟨h, 0, none⟩) m m))
      (first
        | (exact hS0)
        | (exact hSA)
        | (exact hSB)
        | (exact hS1)
        | (exact hS2)
        | (exact hS3)
        | go_keep)
      (first
        | (go_at_call 127; (with_reducible refine (HPL.out w4.drew HB0.out).mono ?_); rintro e w5 ⟨rfl, hb⟩; have hbc := HB0.out.trans (hb.mono HB0.out.size); have hS1 := HX.out w5 hbc; have hba := hbc.alloc hbc.size (.cells #[strV s, .slice (some ⟨h, 0, none⟩) m m] 51); have hS3 := HX.out (w5.alloc (.cells #[strV s, .slice (some ⟨h, 0, none⟩) m m] 51)) hba; have HU5 := Lib.hid hba; have HV5 := Lib.hid (Blk.new w5 51 #[strV s, .slice (some ⟨h, 0, none⟩) m m]); clear hb hbc hba)
        | (go_at_call 127; (with_reducible refine (HPL.out (w4.alloc (.cells #[strV s, .slice (some ⟨h, 0, none⟩) m m] 51)).drew HBA.out).mono ?_); rintro e w5 ⟨rfl, hb⟩; have hbc := HBA.out.trans (hb.mono HBA.out.size); have hS1 := HX.out w5 hbc; have HU5 := Lib.hid hbc; have HV5 := Lib.hid (HVA.out.below hb HVA.out.lt); clear hb hbc)
        | (go_at_call 126; (with_reducible refine (HINS.out (w5.alloc (.cells #[strV s, .slice (some ⟨h, 0, none⟩) m m] 51)) w5.heap.size HU5.out HV5.out).mono ?_); rintro e w6 ⟨g', cap, rfl, ho, hb6⟩; have HE6 := Lib.hid (HEND.out (w5.alloc (.cells #[strV s, .slice (some ⟨h, 0, none⟩) m m] 51)) w6 _ HU5.out ⟨g', cap, rfl, ho, hb6⟩); have hS2 := HX.out w6 (HU5.out.trans (hb6.mono HU5.out.size)); clear ho hb6)
        | (go_at_call 126; (with_reducible refine (HINS.out w5 w4.heap.size HU5.out HV5.out).mono ?_); rintro e w6 ⟨g', cap, rfl, ho, hb6⟩; have HE6 := Lib.hid (HEND.out w5 w6 _ HU5.out ⟨g', cap, rfl, ho, hb6⟩); have hS2 := HX.out w6 (HU5.out.trans (hb6.mono HU5.out.size)); clear ho hb6))
    all_goals
      go_wp2
      go_ret
      rw [HPUT.out]
      exact HE6.out

end Tr
end Go.Proofs.YtfnhjflocfmcoaaGreat

namespace Go.Proofs.YtfnhjflocfmcoaaGreat
open Go.RowKit
set_option linter.unusedVariables false
namespace Tr
open Tx

theorem del_end {w w4 w' : World} {g n k : Nat} {t : TR} {xs : List Value} {s : List UInt8} {e : Ending} (hrow : w4.ownsRow w.heap.size 51 2 (.slice (some ⟨g, 0, none⟩) n n) n xs) (hF : FCells w4 (some g) t xs) (hn : t.length = n) (hi : ixF (isN s) t = some k) (hb : Below w.heap.size w w4)
    (he : DeleteEnd w4 w.heap.size g n k xs e w') : TreeEnd w (del t s) e w' := by
  obtain ⟨rfl, ho, hg⟩ := he
  obtain ⟨hk, h1, _, h3⟩ := get_ix hi
  have hd := del_at hk h1 h3
  have hlen : (del t s).length = k + (n - (k + 1)) := by rw [hd, List.length_append, List.length_take, List.length_drop]; omega
  have hF2 := (hF.gr hg).del (p := k) (by rw [hn]; exact hrow.1) (Nat.le_of_lt hk)
  rw [← hd] at hF2
  refine treeEnd_own (base := w.heap.size) ⟨_, by rw [hlen]; exact ho, hF2⟩ (hb.grown hg (Nat.le_trans hb.size (Nat.le_refl _)) fun j e => by injection e with e; subst e; exact (hrow.lt _ rfl).1)

set_option maxHeartbeats 1000000 in
theorem Del (s : List UInt8) (A : Option Addr) (c n B : Nat) (t : TR) (w : World) (hn : t.length = n) (hs : Wide t) (hB : B ≤ w.heap.size) (hR : RdT w B A t) :
    Calls Tryz.prog 105 #[.slice A n c, strV s] w (TreeEnd w (del t s)) := by
  have hln : n ≤ 3518437208800 := by rw [← hn]; exact hs.len
  have hI := fun w hB hR => find s A c n B t w hn hln hB hR
  have HN := Lib.hid hn; have HS := Lib.hid hs; have R := Lib.hid hR
  obtain ⟨o, ho⟩ : ∃ o, ixF (isN s) t = o := ⟨_, rfl⟩
  rw [ho] at hI
  have HI := Lib.hid hI
  clear hn hs hR hI
  go_enter Tryz.func105, Tryz.ntmps105
  go_wp2_with fail
  refine (againT A c n B t w HN.out HS.out hB R.out).mono ?_
  rintro e w1 ⟨rfl, ⟨xs, hrow, hF⟩, hb1⟩
  have HB1 := Lib.hid hb1; have HRW := Lib.hid hrow; have HF := Lib.hid hF
  clear hb1 hrow hF
  have hgw1 : w.heap.size < w1.heap.size := (HRW.out.lt _ rfl).2
  have hone := HF.out.one_cell (by rw [HN.out]; exact HRW.out.1)
  cases o with
  | none =>
    have hd := del_no (get_ix_none ho)
    have he : TreeEnd w (del t s) (.returned (.slice (some ⟨w.heap.size, 0, none⟩) n n)) w1 := by
      rw [hd]
      exact treeEnd_own (base := w.heap.size) ⟨xs, by rw [HN.out]; exact HRW.out, HF.out⟩ HB1.out
    have hee : ∀ w2, Below w1.heap.size w1 w2 → TreeEnd w (del t s) (.returned (.slice (some ⟨w.heap.size, 0, none⟩) n n)) w2 := fun w2 hb2 => by
      obtain ⟨A, c, e1, e2, e3, e4⟩ := he
      exact ⟨A, c, e1, e2, (e3.below hb2).up hb2.size, e4.trans (hb2.mono e4.size)⟩
    have HEE := Lib.hid hee
    clear ho hd he hee hone
    obtain ⟨g, hg⟩ : ∃ g, w.heap.size = g := ⟨_, rfl⟩
    rw [hg] at HEE HB1 hB hgw1 ⊢
    clear hg HRW HF
    go_wp2_with fail
    refine (HI.out w1 (Nat.le_trans hB (Nat.le_of_lt hgw1)) (R.out.below (HB1.out.mono hB))).mono ?_
    rintro e w4 ⟨rfl, hb4⟩
    simp only [ixV]
    have HE4 := Lib.hid (HEE.out w4 hb4)
    clear hb4
    go_wp2
    go_ret
    exact HE4.out
  | some k =>
    have hkn : k < n := by have := (ixF_some ho).1; rw [HN.out] at this; exact this
    have hE := fun (w4 w' : World) (e : Ending) hr hF hb he => del_end (w := w) (w4 := w4) (w' := w') (g := w.heap.size) (n := n) (k := k) (t := t) (xs := xs) (s := s) (e := e) hr hF HN.out ho hb he
    have HE := Lib.hid hE
    clear ho hE
    have hln' := hln
    have HB1' := Lib.hid HB1.out
    obtain ⟨g, hg⟩ : ∃ g, w.heap.size = g := ⟨_, rfl⟩
    rw [hg] at HE HB1 HRW HF hB hgw1 ⊢
    clear hg
    go_wp2_with fail
    refine (HI.out w1 (Nat.le_trans hB (Nat.le_of_lt hgw1)) (R.out.below (HB1.out.mono hB))).mono ?_
    rintro e w4 ⟨rfl, hb4⟩
    simp only [ixV]
    have hrow4 := own_gr HRW.out (below_gr_row hb4)
    have hend := fun w' e he => HE.out w4 w' e hrow4 (HF.out.gr (gr_none (below_gr_row hb4))) (HB1.out.trans (hb4.mono (Nat.le_of_lt hgw1))) he
    have HROW4 := Lib.hid hrow4; have HEND := Lib.hid hend; have HONE := Lib.hid hone
    clear hrow4 hend hb4 hone
    go_wp2_with fail
    refine (Delete g n k g xs w4 hln hkn HROW4.out HONE.out).mono ?_
    rintro e w5 ⟨rfl, ho5, hg5⟩
    have HE5 := Lib.hid (HEND.out w5 _ ⟨rfl, ho5, hg5⟩)
    clear ho5 hg5
    go_wp2
    go_ret
    exact HE5.out

end Tr
end Go.Proofs.YtfnhjflocfmcoaaGreat

namespace Go.Proofs.YtfnhjflocfmcoaaGreat
open Go.RowKit
set_option linter.unusedVariables false
namespace Tr
open Tx

end Tr
end Go.Proofs.YtfnhjflocfmcoaaGreat

namespace Go.Proofs.YtfnhjflocfmcoaaGreat
open Go.RowKit
set_option linter.unusedVariables false
namespace Tr
open Tx

def SmallL (l : List (List UInt8)) : Prop := l.length ≤ 100000 ∧ ∀ x ∈ l, x.length ≤ 100000
theorem small_put {t : TR} {s : List UInt8} {l : List (List UInt8)} {k : Nat} (h : Small t) (hk : t.length ≤ k) (hk2 : k + 1 ≤ 100000) (hs : s.length ≤ 100000) (hl : SmallL l) : Small (put Op.bytesLess t s l) ∧ (put Op.bytesLess t s l).length ≤ k + 1 := by
  have hle : (put Op.bytesLess t s l).length ≤ k + 1 := by rw [put_len]; split <;> omega
  refine ⟨⟨by omega, fun x hx => ?_⟩, hle⟩
  rcases put_mem hx with rfl | hx
  · exact ⟨hs, hl.1, hl.2⟩
  · exact h.all x hx
theorem small_del {t : TR} {s : List UInt8} {k : Nat} (h : Small t) (hk : t.length ≤ k) : Small (del t s) ∧ (del t s).length ≤ k := by
  have hs := del_sub t s
  exact ⟨⟨Nat.le_trans hs.length_le h.len, fun x hx => h.all x (hs.subset hx)⟩, Nat.le_trans hs.length_le hk⟩
section
variable {A A' : Option Addr} {n c m c' B : Nat} {t u P : TR} {s : List UInt8} {l L : List (List UInt8)} {w : World} {b : Bool} {k : Nat}
end

theorem RdT.mv {w w' : World} {A : Option Addr} {t : TR} (h : RdT w w.heap.size A t) (hb : Below w.heap.size w w') : RdT w' w'.heap.size A t := (h.below hb).up hb.size
theorem below_mv {w0 w w' : World} (h : Below w0.heap.size w0 w) (hb : Below w.heap.size w w') : Below w0.heap.size w0 w' := h.trans (hb.mono h.size)

end Tr
end Go.Proofs.YtfnhjflocfmcoaaGreat

set_option maxRecDepth 100000
namespace Go.Proofs.YtfnhjflocfmcoaaGreat
open Go.RowKit
set_option linter.unusedVariables false
set_option linter.unusedSimpArgs false
namespace Pr
open Tx Df Sq Hk Tr

theorem wide_get {t : TR} {s : List UInt8} {l : List (List UInt8)} (h : Wide t) (hg : get t s = some l) : l.length ≤ 8796093021952 := h.all _ (get_mem hg)
theorem wide_del {t : TR} (h : Wide t) (s : List UInt8) : Wide (del t s) := ⟨Nat.le_trans (del_sub t s).length_le h.len, fun x hx => h.all x ((del_sub t s).subset hx)⟩

set_option maxRecDepth 100000 in
set_option maxHeartbeats 2000000 in
theorem addM (A0 : Option Addr) (n0 c0 : Nat) (A : Option Addr) (n c : Nat) (A' : Option Addr) (n' c' : Nat) (k : Int) (nm to : List UInt8) (q : Int) (t : TR) (w : World) (D : Int × TR) (hs : Wide t) (hn0 : t.length = n0) (hR : RdT w w.heap.size A0 t) (hD : (if (get t nm).isSome then ((5 : Int), ([] : TR)) else (0, put lt t nm [])) = D) :
    Calls Tryz.prog 72 #[prV k nm to q A n c A' n' c', .slice A0 n0 c0] w (DoEnd w D) := by
  have hbx := below_box1 w (.cells #[.int .i64 k, strV nm, strV to, .int .i64 q, .slice A n c, .slice A' n' c'] 105)
  obtain ⟨g, hg⟩ : ∃ g, get t nm = g := ⟨_, rfl⟩
  rw [hg] at hD
  have h2 := fun w1 hB hR => Get nm A0 c0 n0 w.heap.size t w1 hn0 hs hB hR
  rw [hg] at h2
  have hgl : ∀ l, g = some l → l.length ≤ 8796093021952 := fun l e => wide_get hs (hg.trans e)
  have B0 := Lib.hid (Blk.new w 105 #[.int .i64 k, strV nm, strV to, .int .i64 q, .slice A n c, .slice A' n' c'])
  have H2 := Lib.hid h2; have HBX := Lib.hid hbx; have HD := Lib.hid hD; have HG := Lib.hid hg; have HGL := Lib.hid hgl; have HS := Lib.hid hs; have HN0 := Lib.hid hn0; have HR := Lib.hid hR
  have h4 := fun (s : List UInt8) (A1 : Option Addr) (m1 c1 : Nat) (l : List (List UInt8)) w1 hm hm5 hR hR' => Put s A0 A1 c0 n0 w1.heap.size m1 c1 t l w1 hn0 hs hm hm5 (Nat.le_refl _) hR hR'
  have H4 := Lib.hid h4
  clear h4
  clear h2 hbx hD hg hgl hs hn0 hR
  go_enter Tryz.func72, Tryz.ntmps72
  go_wp2_with fail
  refine (H2.out _ HBX.out.size (HR.out.below HBX.out)).mono ?_
  rintro e w1 ⟨AL, cl, rfl, hcl, hrl, hb1⟩
  have b1 := B0.out.below hb1 B0.out.lt
  have RL := Lib.hid hrl; have HB1 := Lib.hid (below_via HBX.out hb1); have B1 := Lib.hid b1
  clear hrl hb1 H2 B0 HBX
  have x0 : w1.cell? ⟨w.heap.size, 0, none⟩ = some (.int .i64 k) := b1.cell 0 rfl
  have x1 : w1.cell? ⟨w.heap.size, 1, none⟩ = some (strV nm) := b1.cell 1 rfl
  have x2 : w1.cell? ⟨w.heap.size, 2, none⟩ = some (strV to) := b1.cell 2 rfl
  have x3 : w1.cell? ⟨w.heap.size, 3, none⟩ = some (.int .i64 q) := b1.cell 3 rfl
  have x4 : w1.cell? ⟨w.heap.size, 4, none⟩ = some (.slice A n c) := b1.cell 4 rfl
  have x5 : w1.cell? ⟨w.heap.size, 5, none⟩ = some (.slice A' n' c') := b1.cell 5 rfl
  clear b1
  cases g with
  | some l =>
    have HO : Hid (D = (5, [])) := Lib.hid (by rw [← HD.out]; rfl)
    go_wp2
    go_ret2
    exact doEnd_err HO.out HB1.out
  | none =>
    have HO : Hid ((0, put lt t nm []) = D) := Lib.hid (by rw [← HD.out]; rfl)
    go_wp2_with fail
    refine (H4.out nm none 0 0 [] w1 rfl (by decide) (rdT_mv HR.out HB1.out) (.inl rfl)).mono ?_
    rintro e w4 ⟨A4, c4, rfl, hc4, hr4, hb4⟩
    have HC4 := Lib.hid hc4; have HR4 := Lib.hid hr4; have HB4 := Lib.hid (below_to HB1.out hb4)
    clear hc4 hr4 hb4
    go_wp2
    go_ret2
    exact doEnd_ok HO.out.symm HC4.out HR4.out HB4.out

set_option maxRecDepth 100000 in
set_option maxHeartbeats 2000000 in
theorem removeM (A0 : Option Addr) (n0 c0 : Nat) (A : Option Addr) (n c : Nat) (A' : Option Addr) (n' c' : Nat) (k : Int) (nm to : List UInt8) (q : Int) (t : TR) (w : World) (D : Int × TR) (hs : Wide t) (hn0 : t.length = n0) (hR : RdT w w.heap.size A0 t) (hD : (match get t nm with | none => ((5 : Int), ([] : TR)) | some l => if l = [] then (0, del t nm) else (5, [])) = D) :
    Calls Tryz.prog 73 #[prV k nm to q A n c A' n' c', .slice A0 n0 c0] w (DoEnd w D) := by
  have hbx := below_box1 w (.cells #[.int .i64 k, strV nm, strV to, .int .i64 q, .slice A n c, .slice A' n' c'] 105)
  obtain ⟨g, hg⟩ : ∃ g, get t nm = g := ⟨_, rfl⟩
  rw [hg] at hD
  have h2 := fun w1 hB hR => Get nm A0 c0 n0 w.heap.size t w1 hn0 hs hB hR
  rw [hg] at h2
  have hgl : ∀ l, g = some l → l.length ≤ 8796093021952 := fun l e => wide_get hs (hg.trans e)
  have B0 := Lib.hid (Blk.new w 105 #[.int .i64 k, strV nm, strV to, .int .i64 q, .slice A n c, .slice A' n' c'])
  have H2 := Lib.hid h2; have HBX := Lib.hid hbx; have HD := Lib.hid hD; have HG := Lib.hid hg; have HGL := Lib.hid hgl; have HS := Lib.hid hs; have HN0 := Lib.hid hn0; have HR := Lib.hid hR
  have h5 := fun w1 hR => Del nm A0 c0 n0 w1.heap.size t w1 hn0 hs (Nat.le_refl _) hR
  have H5 := Lib.hid h5
  clear h5
  clear h2 hbx hD hg hgl hs hn0 hR
  go_enter Tryz.func73, Tryz.ntmps73
  go_wp2_with fail
  refine (H2.out _ HBX.out.size (HR.out.below HBX.out)).mono ?_
  rintro e w1 ⟨AL, cl, rfl, hcl, hrl, hb1⟩
  have b1 := B0.out.below hb1 B0.out.lt
  have RL := Lib.hid hrl; have HB1 := Lib.hid (below_via HBX.out hb1); have B1 := Lib.hid b1
  clear hrl hb1 H2 B0 HBX
  have x0 : w1.cell? ⟨w.heap.size, 0, none⟩ = some (.int .i64 k) := b1.cell 0 rfl
  have x1 : w1.cell? ⟨w.heap.size, 1, none⟩ = some (strV nm) := b1.cell 1 rfl
  have x2 : w1.cell? ⟨w.heap.size, 2, none⟩ = some (strV to) := b1.cell 2 rfl
  have x3 : w1.cell? ⟨w.heap.size, 3, none⟩ = some (.int .i64 q) := b1.cell 3 rfl
  have x4 : w1.cell? ⟨w.heap.size, 4, none⟩ = some (.slice A n c) := b1.cell 4 rfl
  have x5 : w1.cell? ⟨w.heap.size, 5, none⟩ = some (.slice A' n' c') := b1.cell 5 rfl
  clear b1
  cases g with
  | none =>
    have HO : Hid (D = (5, [])) := Lib.hid (by rw [← HD.out])
    go_wp2
    go_ret2
    exact doEnd_err HO.out HB1.out
  | some l =>
    have hll : l.length ≤ 8796093021952 := HGL.out l rfl
    clear HGL
    simp only [Option.getD_some, Option.isSome_some] at RL hcl ⊢
    obtain ⟨m, hm⟩ : ∃ m, l.length = m := ⟨_, rfl⟩
    rw [hm] at hcl hll ⊢
    have HM := Lib.hid hm; clear hm
    by_cases hm0 : m = 0
    · subst hm0
      have hl0 : l = [] := List.length_eq_zero_iff.1 HM.out
      have HO : Hid ((0, del t nm) = D) := Lib.hid (by rw [← HD.out]; exact (if_pos hl0).symm)
      clear HD hl0
      go_wp2_with fail
      refine (H5.out w1 (rdT_mv HR.out HB1.out)).mono ?_
      rintro e w4 ⟨A4, c4, rfl, hc4, hr4, hb4⟩
      have HC4 := Lib.hid hc4; have HR4 := Lib.hid hr4; have HB4 := Lib.hid (below_to HB1.out hb4)
      clear hc4 hr4 hb4
      go_wp2
      go_ret2
      exact doEnd_ok HO.out.symm HC4.out HR4.out HB4.out
    · have hl0 : ¬ l = [] := fun e => hm0 (by rw [← HM.out, e]; rfl)
      have HO : Hid (D = (5, [])) := Lib.hid (by rw [← HD.out]; exact if_neg hl0)
      clear HD hl0
      have hmp : 0 < m := by omega
      go_wp2
      go_ret2
      exact doEnd_err HO.out HB1.out

set_option maxRecDepth 100000 in
set_option maxHeartbeats 2000000 in
theorem moveM (A0 : Option Addr) (n0 c0 : Nat) (A : Option Addr) (n c : Nat) (A' : Option Addr) (n' c' : Nat) (k : Int) (nm to : List UInt8) (q : Int) (t : TR) (w : World) (D : Int × TR) (hs : Wide t) (hn0 : t.length = n0) (hR : RdT w w.heap.size A0 t) (hD : (match get t nm with | none => ((5 : Int), ([] : TR)) | some l => if (get t to).isSome then (5, []) else (0, put lt (del t nm) to l)) = D) :
    Calls Tryz.prog 74 #[prV k nm to q A n c A' n' c', .slice A0 n0 c0] w (DoEnd w D) := by
  have hbx := below_box1 w (.cells #[.int .i64 k, strV nm, strV to, .int .i64 q, .slice A n c, .slice A' n' c'] 105)
  obtain ⟨g, hg⟩ : ∃ g, get t nm = g := ⟨_, rfl⟩
  rw [hg] at hD
  have h2 := fun w1 hB hR => Get nm A0 c0 n0 w.heap.size t w1 hn0 hs hB hR
  rw [hg] at h2
  have hgl : ∀ l, g = some l → l.length ≤ 8796093021952 := fun l e => wide_get hs (hg.trans e)
  have B0 := Lib.hid (Blk.new w 105 #[.int .i64 k, strV nm, strV to, .int .i64 q, .slice A n c, .slice A' n' c'])
  have H2 := Lib.hid h2; have HBX := Lib.hid hbx; have HD := Lib.hid hD; have HG := Lib.hid hg; have HGL := Lib.hid hgl; have HS := Lib.hid hs; have HN0 := Lib.hid hn0; have HR := Lib.hid hR
  obtain ⟨g2, hg2⟩ : ∃ g, get t to = g := ⟨_, rfl⟩
  have h3 := fun w1 hR => Get to A0 c0 n0 w1.heap.size t w1 hn0 hs (Nat.le_refl _) hR
  rw [hg2] at h3
  have H3 := Lib.hid h3; have HG2 := Lib.hid hg2
  clear h3 hg2
  have h5 := fun w1 hR => Del nm A0 c0 n0 w1.heap.size t w1 hn0 hs (Nat.le_refl _) hR
  have H5 := Lib.hid h5
  clear h5
  clear h2 hbx hD hg hgl hs hn0 hR
  go_enter Tryz.func74, Tryz.ntmps74
  go_wp2_with fail
  refine (H2.out _ HBX.out.size (HR.out.below HBX.out)).mono ?_
  rintro e w1 ⟨AL, cl, rfl, hcl, hrl, hb1⟩
  have b1 := B0.out.below hb1 B0.out.lt
  have RL := Lib.hid hrl; have HB1 := Lib.hid (below_via HBX.out hb1); have B1 := Lib.hid b1
  clear hrl hb1 H2 B0 HBX
  have x0 : w1.cell? ⟨w.heap.size, 0, none⟩ = some (.int .i64 k) := b1.cell 0 rfl
  have x1 : w1.cell? ⟨w.heap.size, 1, none⟩ = some (strV nm) := b1.cell 1 rfl
  have x2 : w1.cell? ⟨w.heap.size, 2, none⟩ = some (strV to) := b1.cell 2 rfl
  have x3 : w1.cell? ⟨w.heap.size, 3, none⟩ = some (.int .i64 q) := b1.cell 3 rfl
  have x4 : w1.cell? ⟨w.heap.size, 4, none⟩ = some (.slice A n c) := b1.cell 4 rfl
  have x5 : w1.cell? ⟨w.heap.size, 5, none⟩ = some (.slice A' n' c') := b1.cell 5 rfl
  clear b1
  go_wp2_with fail
  refine (H3.out w1 (rdT_mv HR.out HB1.out)).mono ?_
  rintro e w2 ⟨AT, ct, rfl, hct, hrt, hb2⟩
  have b2 := B1.out.below hb2 B1.out.lt
  replace RL := Lib.hid (rdS_to RL.out hb2)
  have HB2 := Lib.hid (below_to HB1.out hb2); have B2 := Lib.hid b2
  clear hrt hb2 hct H3 B1 x0 x1 x2 x3 x4 x5
  have x1 : w2.cell? ⟨w.heap.size, 1, none⟩ = some (strV nm) := b2.cell 1 rfl
  have x2 : w2.cell? ⟨w.heap.size, 2, none⟩ = some (strV to) := b2.cell 2 rfl
  clear b2
  cases g with
  | none =>
    have HO : Hid (D = (5, [])) := Lib.hid (by rw [← HD.out])
    go_wp2
    go_ret2
    exact doEnd_err HO.out HB2.out
  | some l =>
    have hll : l.length ≤ 8796093021952 := HGL.out l rfl
    clear HGL
    simp only [Option.getD_some, Option.isSome_some] at RL hcl ⊢
    obtain ⟨m, hm⟩ : ∃ m, l.length = m := ⟨_, rfl⟩
    rw [hm] at hcl hll ⊢
    have HM := Lib.hid hm; clear hm
    cases g2 with
    | some l2 =>
      have HO : Hid (D = (5, [])) := Lib.hid (by rw [← HD.out]; simp only [HG2.out]; rfl)
      clear HD
      go_wp2
      go_ret2
      exact doEnd_err HO.out HB2.out
    | none =>
      have HO : Hid ((0, put lt (del t nm) to l) = D) := Lib.hid (by rw [← HD.out]; simp only [HG2.out]; rfl)
      clear HD
      obtain ⟨kd, hkd⟩ : ∃ kd, (del t nm).length = kd := ⟨_, rfl⟩
      have H7 : Hid (∀ A4 c4 w4, RdT w4 w4.heap.size A4 (del t nm) → RdS w4 w4.heap.size AL l → Calls Tryz.prog 104 #[.slice A4 kd c4, strV to, .slice AL m cl] w4 (TreeEnd w4 (put lt (del t nm) to l))) := Lib.hid (fun A4 c4 w4 hR hR' => Put to A4 AL c4 kd w4.heap.size m cl (del t nm) l w4 hkd (wide_del HS.out nm) HM.out (Nat.le_trans hll (by decide)) (Nat.le_refl _) hR hR')
      have HRT : Hid (RdT w2 w2.heap.size A0 t) := Lib.hid (rdT_mv HR.out HB2.out)
      have HB20 : Hid (Below w.heap.size w w2.drew) := Lib.hid (below_drewN HB2.out 1)
      have h8 := H5.out w2.drew (HRT.out.drewN 1)
      unfold TreeEnd at h8
      rw [hkd] at h8
      have H8 := Lib.hid h8
      have RLD : Hid (RdS w2.drew w2.drew.heap.size AL l) := Lib.hid (Rd.drewN RL.out 1)
      have BD : Hid (Blk w2.drew w.heap.size 105 _) := Lib.hid (B2.out.drewN 1)
      clear h8 hkd H5
      go_wp2_with fail
      go_region_held3 (fun w' => w'.cell? ⟨w.heap.size, 1, none⟩ = some (strV nm) ∧ w'.cell? ⟨w.heap.size, 2, none⟩ = some (strV to))
        (first | go_keep | (exact ⟨y1, y2⟩) | (exact ⟨z1, z2⟩))
        (first
          | (go_at_call 105; refine H8.out.mono ?_; rintro e w4 ⟨A4, c4, rfl, hc4, hr4, hb4⟩;
              have b4 := BD.out.below hb4 BD.out.lt; have y1 : w4.cell? ⟨w.heap.size, 1, none⟩ = some (strV nm) := b4.cell 1 rfl; have y2 : w4.cell? ⟨w.heap.size, 2, none⟩ = some (strV to) := b4.cell 2 rfl;
              have HR4 := Lib.hid hr4; have RL4 := Lib.hid (rdS_to RLD.out hb4); have HB4 := Lib.hid (below_to HB20.out hb4); have B4 := Lib.hid b4; clear hr4 hb4 b4)
          | (go_at_call 104; refine (H7.out A4 c4 w4 HR4.out RL4.out).mono ?_; rintro e w5 ⟨A5, c5, rfl, hc5, hr5, hb5⟩;
              have b5 := B4.out.below hb5 B4.out.lt; have z1 : w5.cell? ⟨w.heap.size, 1, none⟩ = some (strV nm) := b5.cell 1 rfl; have z2 : w5.cell? ⟨w.heap.size, 2, none⟩ = some (strV to) := b5.cell 2 rfl;
              have HC5 := Lib.hid hc5; have HR5 := Lib.hid hr5; have HB5 := Lib.hid (below_to HB4.out hb5); clear hc5 hr5 hb5 b5))
      go_wp2
      go_ret2
      exact doEnd_ok HO.out.symm HC5.out HR5.out HB5.out

set_option maxRecDepth 100000 in
set_option maxHeartbeats 2000000 in
theorem patchM (A0 : Option Addr) (n0 c0 : Nat) (A : Option Addr) (n c : Nat) (A' : Option Addr) (n' c' : Nat) (k : Int) (nm to : List UInt8) (q : Int) (t : TR) (w : World) (D : Int × TR) (hs : Wide t) (hn0 : t.length = n0) (hR : RdT w w.heap.size A0 t) (h : HU) (hq : h.pos = q) (hm : mayH h = true) (hv : HV w w.heap.size A n c A' n' c' h) (hD : (match get t nm with | none => ((5 : Int), ([] : TR)) | some l => if applyE l h = 0 then (0, put lt t nm (applyL l h)) else (applyE l h, [])) = D) :
    Calls Tryz.prog 75 #[prV k nm to q A n c A' n' c', .slice A0 n0 c0] w (DoEnd w D) := by
  have hbx := below_box1 w (.cells #[.int .i64 k, strV nm, strV to, .int .i64 q, .slice A n c, .slice A' n' c'] 105)
  obtain ⟨g, hg⟩ : ∃ g, get t nm = g := ⟨_, rfl⟩
  rw [hg] at hD
  have h2 := fun w1 hB hR => Get nm A0 c0 n0 w.heap.size t w1 hn0 hs hB hR
  rw [hg] at h2
  have hgl : ∀ l, g = some l → l.length ≤ 8796093021952 := fun l e => wide_get hs (hg.trans e)
  have B0 := Lib.hid (Blk.new w 105 #[.int .i64 k, strV nm, strV to, .int .i64 q, .slice A n c, .slice A' n' c'])
  have H2 := Lib.hid h2; have HBX := Lib.hid hbx; have HD := Lib.hid hD; have HG := Lib.hid hg; have HGL := Lib.hid hgl; have HS := Lib.hid hs; have HN0 := Lib.hid hn0; have HR := Lib.hid hR
  have h4 := fun (s : List UInt8) (A1 : Option Addr) (m1 c1 : Nat) (l : List (List UInt8)) w1 hm hm5 hR hR' => Put s A0 A1 c0 n0 w1.heap.size m1 c1 t l w1 hn0 hs hm hm5 (Nat.le_refl _) hR hR'
  have H4 := Lib.hid h4
  clear h4
  have h6 := fun (A1 : Option Addr) (m1 c1 : Nat) (l : List (List UInt8)) w1 hm hc h1 hR hv => ApplyW A1 m1 c1 A n c A' n' c' w1.heap.size l h w1 (Nat.le_refl _) hm hc h1 hR hv
  rw [hq] at h6
  have H6 := Lib.hid h6; have HV0 := Lib.hid hv; have HHM := Lib.hid hm; have HQ := Lib.hid hq
  clear h2 hbx hD hg hgl hs hn0 hR h6 hv hm hq
  go_enter Tryz.func75, Tryz.ntmps75
  go_wp2_with fail
  refine (H2.out _ HBX.out.size (HR.out.below HBX.out)).mono ?_
  rintro e w1 ⟨AL, cl, rfl, hcl, hrl, hb1⟩
  have b1 := B0.out.below hb1 B0.out.lt
  have RL := Lib.hid hrl; have HB1 := Lib.hid (below_via HBX.out hb1); have B1 := Lib.hid b1
  clear hrl hb1 H2 B0 HBX
  have x0 : w1.cell? ⟨w.heap.size, 0, none⟩ = some (.int .i64 k) := b1.cell 0 rfl
  have x1 : w1.cell? ⟨w.heap.size, 1, none⟩ = some (strV nm) := b1.cell 1 rfl
  have x2 : w1.cell? ⟨w.heap.size, 2, none⟩ = some (strV to) := b1.cell 2 rfl
  have x3 : w1.cell? ⟨w.heap.size, 3, none⟩ = some (.int .i64 q) := b1.cell 3 rfl
  have x4 : w1.cell? ⟨w.heap.size, 4, none⟩ = some (.slice A n c) := b1.cell 4 rfl
  have x5 : w1.cell? ⟨w.heap.size, 5, none⟩ = some (.slice A' n' c') := b1.cell 5 rfl
  clear b1
  cases g with
  | none =>
    have HO : Hid (D = (5, [])) := Lib.hid (by rw [← HD.out])
    go_wp2
    go_ret2
    exact doEnd_err HO.out HB1.out
  | some l =>
    have hll : l.length ≤ 8796093021952 := HGL.out l rfl
    clear HGL
    simp only [Option.getD_some, Option.isSome_some] at RL hcl ⊢
    obtain ⟨m, hm⟩ : ∃ m, l.length = m := ⟨_, rfl⟩
    rw [hm] at hcl hll ⊢
    have HM := Lib.hid hm; clear hm
    go_wp2_with fail
    refine (H6.out AL m cl l w1 HM.out hcl hll RL.out (hv_mv HV0.out HB1.out)).mono ?_
    rintro e w3 ⟨A3, k3, c3, rfl, hc3, hl3, hr3, hb3⟩
    have b3 := B1.out.below hb3 B1.out.lt
    have HR3 := Lib.hid hr3; have HB3 := Lib.hid (below_to HB1.out hb3)
    have hk3 : k3 ≤ 8796093022208 := by have h1 := applyL_len (l := l) (h := h); have h2 := mayH_new HHM.out; rw [hl3, HM.out] at h1; omega
    have HL3 := Lib.hid hl3
    clear x0 x1 x2 x3 x4 x5
    have x1 : w3.cell? ⟨w.heap.size, 1, none⟩ = some (strV nm) := b3.cell 1 rfl
    clear hl3 hr3 hb3 B1 RL b3 H6
    by_cases hz : applyE l h = 0
    · have HO : Hid ((0, put lt t nm (applyL l h)) = D) := Lib.hid (by rw [← HD.out]; exact (if_pos hz).symm)
      rw [hz]
      clear HD
      go_wp2_with fail
      refine (H4.out nm A3 k3 c3 (applyL l h) w3 HL3.out hk3 (rdT_mv HR.out HB3.out) HR3.out).mono ?_
      rintro e w4 ⟨A4, c4, rfl, hc4, hr4, hb4⟩
      have HC4 := Lib.hid hc4; have HR4 := Lib.hid hr4; have HB4 := Lib.hid (below_to HB3.out hb4)
      clear hc4 hr4 hb4
      go_wp2
      go_ret2
      exact doEnd_ok HO.out.symm HC4.out HR4.out HB4.out
    · have HO : Hid (D = (applyE l h, [])) := Lib.hid (by rw [← HD.out]; exact if_neg hz)
      clear HD
      generalize applyE l h = ae at *
      have ez : (ae == 0) = false := by rw [beq_eq_false_iff_ne]; exact hz
      go_wp2
      go_ret2
      exact doEnd_err HO.out HB3.out

set_option maxRecDepth 100000 in
set_option maxHeartbeats 2000000 in
theorem setM (A0 : Option Addr) (n0 c0 : Nat) (A : Option Addr) (n c : Nat) (A' : Option Addr) (n' c' : Nat) (k : Int) (nm to : List UInt8) (q : Int) (t : TR) (w : World) (D : Int × TR) (hs : Wide t) (hn0 : t.length = n0) (hR : RdT w w.heap.size A0 t) (h : HU) (hnew : n' ≤ 8796093022208) (hv : HV w w.heap.size A n c A' n' c' h) (hD : (match get t nm with | none => ((5 : Int), ([] : TR)) | some l => if l = h.old then (0, put lt t nm h.new) else (5, [])) = D) :
    Calls Tryz.prog 76 #[prV k nm to q A n c A' n' c', .slice A0 n0 c0] w (DoEnd w D) := by
  have hbx := below_box1 w (.cells #[.int .i64 k, strV nm, strV to, .int .i64 q, .slice A n c, .slice A' n' c'] 105)
  obtain ⟨g, hg⟩ : ∃ g, get t nm = g := ⟨_, rfl⟩
  rw [hg] at hD
  have h2 := fun w1 hB hR => Get nm A0 c0 n0 w.heap.size t w1 hn0 hs hB hR
  rw [hg] at h2
  have hgl : ∀ l, g = some l → l.length ≤ 8796093021952 := fun l e => wide_get hs (hg.trans e)
  have B0 := Lib.hid (Blk.new w 105 #[.int .i64 k, strV nm, strV to, .int .i64 q, .slice A n c, .slice A' n' c'])
  have H2 := Lib.hid h2; have HBX := Lib.hid hbx; have HD := Lib.hid hD; have HG := Lib.hid hg; have HGL := Lib.hid hgl; have HS := Lib.hid hs; have HN0 := Lib.hid hn0; have HR := Lib.hid hR
  have h4 := fun (s : List UInt8) (A1 : Option Addr) (m1 c1 : Nat) (l : List (List UInt8)) w1 hm hm5 hR hR' => Put s A0 A1 c0 n0 w1.heap.size m1 c1 t l w1 hn0 hs hm hm5 (Nat.le_refl _) hR hR'
  have H4 := Lib.hid h4
  clear h4
  have HV0 := Lib.hid hv
  clear h2 hbx hD hg hgl hs hn0 hR hv
  go_enter Tryz.func76, Tryz.ntmps76
  go_wp2_with fail
  refine (H2.out _ HBX.out.size (HR.out.below HBX.out)).mono ?_
  rintro e w1 ⟨AL, cl, rfl, hcl, hrl, hb1⟩
  have b1 := B0.out.below hb1 B0.out.lt
  have RL := Lib.hid hrl; have HB1 := Lib.hid (below_via HBX.out hb1); have B1 := Lib.hid b1
  clear hrl hb1 H2 B0 HBX
  have x0 : w1.cell? ⟨w.heap.size, 0, none⟩ = some (.int .i64 k) := b1.cell 0 rfl
  have x1 : w1.cell? ⟨w.heap.size, 1, none⟩ = some (strV nm) := b1.cell 1 rfl
  have x2 : w1.cell? ⟨w.heap.size, 2, none⟩ = some (strV to) := b1.cell 2 rfl
  have x3 : w1.cell? ⟨w.heap.size, 3, none⟩ = some (.int .i64 q) := b1.cell 3 rfl
  have x4 : w1.cell? ⟨w.heap.size, 4, none⟩ = some (.slice A n c) := b1.cell 4 rfl
  have x5 : w1.cell? ⟨w.heap.size, 5, none⟩ = some (.slice A' n' c') := b1.cell 5 rfl
  clear b1
  cases g with
  | none =>
    have HO : Hid (D = (5, [])) := Lib.hid (by rw [← HD.out])
    go_wp2
    go_ret2
    exact doEnd_err HO.out HB1.out
  | some l =>
    have hll : l.length ≤ 8796093021952 := HGL.out l rfl
    clear HGL
    simp only [Option.getD_some, Option.isSome_some] at RL hcl ⊢
    obtain ⟨m, hm⟩ : ∃ m, l.length = m := ⟨_, rfl⟩
    rw [hm] at hcl hll ⊢
    have HM := Lib.hid hm; clear hm
    go_wp2_with fail
    refine (Hk.Equal AL A cl c m n w1.heap.size l h.old w1 HM.out HV0.out.l (Nat.le_trans hll (by decide)) RL.out (hv_mv HV0.out HB1.out).r).mono ?_
    rintro e w3 ⟨rfl, d, rfl⟩
    have HB3 : Hid (Below w.heap.size w (w1.drewN d)) := Lib.hid (below_drewN HB1.out d)
    by_cases hz : l = h.old
    · have HO : Hid ((0, put lt t nm h.new) = D) := Lib.hid (by rw [← HD.out]; exact (if_pos hz).symm)
      have hdz : decide (l = h.old) = true := decide_eq_true hz
      rw [hdz]
      clear HD hdz
      go_wp2_with fail
      refine (H4.out nm A' n' c' h.new (w1.drewN d) HV0.out.l' hnew (rdT_mv HR.out HB3.out) ((Rd.drewN (hv_mv HV0.out HB1.out).r' d))).mono ?_
      rintro e w4 ⟨A4, c4, rfl, hc4, hr4, hb4⟩
      have HC4 := Lib.hid hc4; have HR4 := Lib.hid hr4; have HB4 := Lib.hid (below_to HB3.out hb4)
      clear hc4 hr4 hb4
      go_wp2
      go_ret2
      exact doEnd_ok HO.out.symm HC4.out HR4.out HB4.out
    · have HO : Hid (D = (5, [])) := Lib.hid (by rw [← HD.out]; exact if_neg hz)
      have hdz : decide (l = h.old) = false := decide_eq_false hz
      rw [hdz]
      clear HD hdz
      go_wp2
      go_ret2
      exact doEnd_err HO.out HB3.out

set_option maxHeartbeats 1000000 in
theorem deeds (w : World) : Calls Tryz.prog 56 #[] w fun e w' => e = .returned (.agg #[.func (.func 72) #[] #[], .func (.func 73) #[] #[], .func (.func 74) #[] #[], .func (.func 75) #[] #[], .func (.func 76) #[] #[]]) ∧ Below w.heap.size w w' := by
  have hb := below_box1 w (.cells #[.nilFunc, .nilFunc, .nilFunc, .nilFunc, .nilFunc] 103)
  have b0 := Blk.new w 103 #[.nilFunc, .nilFunc, .nilFunc, .nilFunc, .nilFunc]
  go_enter Tryz.func56, Tryz.ntmps56
  go_upto_region 1 with fail
  generalize w.alloc (.cells #[.nilFunc, .nilFunc, .nilFunc, .nilFunc, .nilFunc] 103) = w1 at *
  have x0 : w1.cell? ⟨w.heap.size, 0, none⟩ = some .nilFunc := b0.cell 0 rfl
  have f0 : w1.frozen? ⟨w.heap.size, 0, none⟩ = false := b0.frozen 0
  have x1 : w1.cell? ⟨w.heap.size, 1, none⟩ = some .nilFunc := b0.cell 1 rfl
  have f1 : w1.frozen? ⟨w.heap.size, 1, none⟩ = false := b0.frozen 1
  have x2 : w1.cell? ⟨w.heap.size, 2, none⟩ = some .nilFunc := b0.cell 2 rfl
  have f2 : w1.frozen? ⟨w.heap.size, 2, none⟩ = false := b0.frozen 2
  have x3 : w1.cell? ⟨w.heap.size, 3, none⟩ = some .nilFunc := b0.cell 3 rfl
  have f3 : w1.frozen? ⟨w.heap.size, 3, none⟩ = false := b0.frozen 3
  have x4 : w1.cell? ⟨w.heap.size, 4, none⟩ = some .nilFunc := b0.cell 4 rfl
  have f4 : w1.frozen? ⟨w.heap.size, 4, none⟩ = false := b0.frozen 4
  have b1 := blk5 b0 (.func (.func 72) #[] #[]) (.func (.func 73) #[] #[]) (.func (.func 74) #[] #[]) (.func (.func 75) #[] #[]) (.func (.func 76) #[] #[])
  have HB := Lib.hid (below5 hb (.func (.func 72) #[] #[]) (.func (.func 73) #[] #[]) (.func (.func 74) #[] #[]) (.func (.func 75) #[] #[]) (.func (.func 76) #[] #[])); have B1 := Lib.hid b1
  clear b0 b1 hb
  go_wp2
  have b1 := B1.out; have hb := HB.out
  clear x0 x1 x2 x3 x4 f0 f1 f2 f3 f4 B1 HB
  generalize (World.setCell (World.setCell (World.setCell (World.setCell (World.setCell w1 ⟨w.heap.size, 0, none⟩ (.func (.func 72) #[] #[])) ⟨w.heap.size, 1, none⟩ (.func (.func 73) #[] #[])) ⟨w.heap.size, 2, none⟩ (.func (.func 74) #[] #[])) ⟨w.heap.size, 3, none⟩ (.func (.func 75) #[] #[])) ⟨w.heap.size, 4, none⟩ (.func (.func 76) #[] #[])) = w2 at *
  have q0 : w2.cell? ⟨w.heap.size, 0, none⟩ = some (.func (.func 72) #[] #[]) := b1.cell 0 rfl
  have q1 : w2.cell? ⟨w.heap.size, 1, none⟩ = some (.func (.func 73) #[] #[]) := b1.cell 1 rfl
  have q2 : w2.cell? ⟨w.heap.size, 2, none⟩ = some (.func (.func 74) #[] #[]) := b1.cell 2 rfl
  have q3 : w2.cell? ⟨w.heap.size, 3, none⟩ = some (.func (.func 75) #[] #[]) := b1.cell 3 rfl
  have q4 : w2.cell? ⟨w.heap.size, 4, none⟩ = some (.func (.func 76) #[] #[]) := b1.cell 4 rfl
  refine bodyPost_ret (v := .agg #[.func (.func 72) #[] #[], .func (.func 73) #[] #[], .func (.func 74) #[] #[], .func (.func 75) #[] #[], .func (.func 76) #[] #[]]) (by simp [results, Tryz.results56, go_sem, q0, q1, q2, q3, q4]) rfl ?_
  exact ⟨rfl, hb⟩

theorem index_do (w : World) (i : Int) (f : Value) (hi : 0 ≤ i ∧ i < 5) (hf : (#[.func (.func 72) #[] #[], .func (.func 73) #[] #[], .func (.func 74) #[] #[], .func (.func 75) #[] #[], .func (.func 76) #[] #[]] : Array Value)[i.toNat]? = some f) :
    (Instr.index 103 (.agg #[.func (.func 72) #[] #[], .func (.func 73) #[] #[], .func (.func 74) #[] #[], .func (.func 75) #[] #[], .func (.func 76) #[] #[]]) (.int .i64 i)).run Tryz.prog w = .ok f w :=
  run_index_array Tryz.underlying103 hi (by kernel_rfl) (by kernel_rfl) hf

set_option maxHeartbeats 4000000 in
theorem ApplyP0 (A0 : Option Addr) (n0 c0 : Nat) (A : Option Addr) (n c : Nat) (A' : Option Addr) (n' c' : Nat) (nm to : List UInt8) (q : Int) (w : World) (D : Int × TR)
    (hmay : ∀ w1, Below w.heap.size w w1 → Calls Tryz.prog 55 #[prV 0 nm to q A n c A' n' c'] w1 (TestEnd w1 true))
    (hm : ∀ w1, Below w.heap.size w w1 → Calls Tryz.prog 72 #[prV 0 nm to q A n c A' n' c', .slice A0 n0 c0] w1 (DoEnd w1 D)) :
    Calls Tryz.prog 43 #[.slice A0 n0 c0, prV 0 nm to q A n c A' n' c'] w (DoEnd w D) := by
  have hbx : Below w.heap.size w (box w 0 nm to q A n c A' n' c') := (Below.refl _ _).alloc (Nat.le_refl _) _
  have HBX := Lib.hid hbx; have H1 := Lib.hid hm; have HM := Lib.hid hmay
  have B0 := Lib.hid (Blk.new w 55 #[.int .i64 0, strV nm, strV to, .int .i64 q, .slice A n c, .slice A' n' c'])
  clear hbx hm hmay
  go_enter Tryz.func43, Tryz.ntmps43
  go_wp2_with fail
  refine (HM.out (box w 0 nm to q A n c A' n' c') HBX.out).mono ?_
  rintro e W ⟨rfl, hb1⟩
  have b0 := B0.out.below hb1 B0.out.lt
  have HB1 := Lib.hid (below_via HBX.out hb1)
  have BW := Lib.hid b0
  have HH : Hid (∀ w1, Below W.heap.size W.drew w1 → Blk w1 w.heap.size 55 #[.int .i64 0, strV nm, strV to, .int .i64 q, .slice A n c, .slice A' n' c']) := Lib.hid (fun w1 hb => (BW.out.drewN 1).below hb BW.out.lt)
  have HT : Hid (∀ w1, Below W.heap.size W.drew w1 → Below w.heap.size w w1) := Lib.hid (fun w1 hb => (below_drewN HB1.out 1).trans (hb.mono HB1.out.size))
  clear hb1 B0 HBX
  have x0 : W.cell? ⟨w.heap.size, 0, none⟩ = some (.int .i64 0) := b0.cell 0 rfl
  have x1 : W.cell? ⟨w.heap.size, 1, none⟩ = some (strV nm) := b0.cell 1 rfl
  have x2 : W.cell? ⟨w.heap.size, 2, none⟩ = some (strV to) := b0.cell 2 rfl
  have x3 : W.cell? ⟨w.heap.size, 3, none⟩ = some (.int .i64 q) := b0.cell 3 rfl
  have x4 : W.cell? ⟨w.heap.size, 4, none⟩ = some (.slice A n c) := b0.cell 4 rfl
  have x5 : W.cell? ⟨w.heap.size, 5, none⟩ = some (.slice A' n' c') := b0.cell 5 rfl
  clear b0
  have qi := fun w => index_do w 0 _ (by decide) rfl
  go_wp2_with fail
  go_region_held3 (fun w' => w'.cell? ⟨w.heap.size, 0, none⟩ = some (.int .i64 0) ∧ w'.cell? ⟨w.heap.size, 1, none⟩ = some (strV nm) ∧ w'.cell? ⟨w.heap.size, 2, none⟩ = some (strV to) ∧ w'.cell? ⟨w.heap.size, 3, none⟩ = some (.int .i64 q) ∧ w'.cell? ⟨w.heap.size, 4, none⟩ = some (.slice A n c) ∧ w'.cell? ⟨w.heap.size, 5, none⟩ = some (.slice A' n' c'))
    (first | go_keep | (exact ⟨y0, y1, y2, y3, y4, y5⟩) | (exact ⟨z0, z1, z2, z3, z4, z5⟩))
    (first
      | (go_at_call 56; refine (deeds W.drew).mono ?_; rintro e w2 ⟨rfl, hb2⟩; have b2 := HH.out w2 hb2; have hb02 := HT.out w2 hb2; have y0 : w2.cell? ⟨w.heap.size, 0, none⟩ = some (.int .i64 0) := b2.cell 0 rfl; have y1 : w2.cell? ⟨w.heap.size, 1, none⟩ = some (strV nm) := b2.cell 1 rfl; have y2 : w2.cell? ⟨w.heap.size, 2, none⟩ = some (strV to) := b2.cell 2 rfl; have y3 : w2.cell? ⟨w.heap.size, 3, none⟩ = some (.int .i64 q) := b2.cell 3 rfl; have y4 : w2.cell? ⟨w.heap.size, 4, none⟩ = some (.slice A n c) := b2.cell 4 rfl; have y5 : w2.cell? ⟨w.heap.size, 5, none⟩ = some (.slice A' n' c') := b2.cell 5 rfl; have HB2 := Lib.hid hb02; have B2 := Lib.hid b2; clear b2 hb2 hb02)
      | (go_at_call 72; refine (H1.out w2 HB2.out).mono ?_; rintro e w3 ⟨A3, k3, c3, rfl, hc3, hl3, hr3, hb3⟩; have hb03 := below_via HB2.out hb3; have b3 := B2.out.below hb3 B2.out.lt; have z0 : w3.cell? ⟨w.heap.size, 0, none⟩ = some (.int .i64 0) := b3.cell 0 rfl; have z1 : w3.cell? ⟨w.heap.size, 1, none⟩ = some (strV nm) := b3.cell 1 rfl; have z2 : w3.cell? ⟨w.heap.size, 2, none⟩ = some (strV to) := b3.cell 2 rfl; have z3 : w3.cell? ⟨w.heap.size, 3, none⟩ = some (.int .i64 q) := b3.cell 3 rfl; have z4 : w3.cell? ⟨w.heap.size, 4, none⟩ = some (.slice A n c) := b3.cell 4 rfl; have z5 : w3.cell? ⟨w.heap.size, 5, none⟩ = some (.slice A' n' c') := b3.cell 5 rfl; have HB3 := Lib.hid hb03; have HC3 := Lib.hid hc3; have HL3 := Lib.hid hl3; have HR3 := Lib.hid hr3; clear b3 hb3 hb03 hc3 hl3 hr3))
  go_wp2
  go_ret2
  exact ⟨A3, k3, c3, rfl, HC3.out, HL3.out, HR3.out, HB3.out⟩

set_option maxHeartbeats 4000000 in
theorem ApplyP1 (A0 : Option Addr) (n0 c0 : Nat) (A : Option Addr) (n c : Nat) (A' : Option Addr) (n' c' : Nat) (nm to : List UInt8) (q : Int) (w : World) (D : Int × TR)
    (hmay : ∀ w1, Below w.heap.size w w1 → Calls Tryz.prog 55 #[prV 1 nm to q A n c A' n' c'] w1 (TestEnd w1 true))
    (hm : ∀ w1, Below w.heap.size w w1 → Calls Tryz.prog 73 #[prV 1 nm to q A n c A' n' c', .slice A0 n0 c0] w1 (DoEnd w1 D)) :
    Calls Tryz.prog 43 #[.slice A0 n0 c0, prV 1 nm to q A n c A' n' c'] w (DoEnd w D) := by
  have hbx : Below w.heap.size w (box w 1 nm to q A n c A' n' c') := (Below.refl _ _).alloc (Nat.le_refl _) _
  have HBX := Lib.hid hbx; have H1 := Lib.hid hm; have HM := Lib.hid hmay
  have B0 := Lib.hid (Blk.new w 55 #[.int .i64 1, strV nm, strV to, .int .i64 q, .slice A n c, .slice A' n' c'])
  clear hbx hm hmay
  go_enter Tryz.func43, Tryz.ntmps43
  go_wp2_with fail
  refine (HM.out (box w 1 nm to q A n c A' n' c') HBX.out).mono ?_
  rintro e W ⟨rfl, hb1⟩
  have b0 := B0.out.below hb1 B0.out.lt
  have HB1 := Lib.hid (below_via HBX.out hb1)
  have BW := Lib.hid b0
  have HH : Hid (∀ w1, Below W.heap.size W.drew w1 → Blk w1 w.heap.size 55 #[.int .i64 1, strV nm, strV to, .int .i64 q, .slice A n c, .slice A' n' c']) := Lib.hid (fun w1 hb => (BW.out.drewN 1).below hb BW.out.lt)
  have HT : Hid (∀ w1, Below W.heap.size W.drew w1 → Below w.heap.size w w1) := Lib.hid (fun w1 hb => (below_drewN HB1.out 1).trans (hb.mono HB1.out.size))
  clear hb1 B0 HBX
  have x0 : W.cell? ⟨w.heap.size, 0, none⟩ = some (.int .i64 1) := b0.cell 0 rfl
  have x1 : W.cell? ⟨w.heap.size, 1, none⟩ = some (strV nm) := b0.cell 1 rfl
  have x2 : W.cell? ⟨w.heap.size, 2, none⟩ = some (strV to) := b0.cell 2 rfl
  have x3 : W.cell? ⟨w.heap.size, 3, none⟩ = some (.int .i64 q) := b0.cell 3 rfl
  have x4 : W.cell? ⟨w.heap.size, 4, none⟩ = some (.slice A n c) := b0.cell 4 rfl
  have x5 : W.cell? ⟨w.heap.size, 5, none⟩ = some (.slice A' n' c') := b0.cell 5 rfl
  clear b0
  have qi := fun w => index_do w 1 _ (by decide) rfl
  go_wp2_with fail
  go_region_held3 (fun w' => w'.cell? ⟨w.heap.size, 0, none⟩ = some (.int .i64 1) ∧ w'.cell? ⟨w.heap.size, 1, none⟩ = some (strV nm) ∧ w'.cell? ⟨w.heap.size, 2, none⟩ = some (strV to) ∧ w'.cell? ⟨w.heap.size, 3, none⟩ = some (.int .i64 q) ∧ w'.cell? ⟨w.heap.size, 4, none⟩ = some (.slice A n c) ∧ w'.cell? ⟨w.heap.size, 5, none⟩ = some (.slice A' n' c'))
    (first | go_keep | (exact ⟨y0, y1, y2, y3, y4, y5⟩) | (exact ⟨z0, z1, z2, z3, z4, z5⟩))
    (first
      | (go_at_call 56; refine (deeds W.drew).mono ?_; rintro e w2 ⟨rfl, hb2⟩; have b2 := HH.out w2 hb2; have hb02 := HT.out w2 hb2; have y0 : w2.cell? ⟨w.heap.size, 0, none⟩ = some (.int .i64 1) := b2.cell 0 rfl; have y1 : w2.cell? ⟨w.heap.size, 1, none⟩ = some (strV nm) := b2.cell 1 rfl; have y2 : w2.cell? ⟨w.heap.size, 2, none⟩ = some (strV to) := b2.cell 2 rfl; have y3 : w2.cell? ⟨w.heap.size, 3, none⟩ = some (.int .i64 q) := b2.cell 3 rfl; have y4 : w2.cell? ⟨w.heap.size, 4, none⟩ = some (.slice A n c) := b2.cell 4 rfl; have y5 : w2.cell? ⟨w.heap.size, 5, none⟩ = some (.slice A' n' c') := b2.cell 5 rfl; have HB2 := Lib.hid hb02; have B2 := Lib.hid b2; clear b2 hb2 hb02)
      | (go_at_call 73; refine (H1.out w2 HB2.out).mono ?_; rintro e w3 ⟨A3, k3, c3, rfl, hc3, hl3, hr3, hb3⟩; have hb03 := below_via HB2.out hb3; have b3 := B2.out.below hb3 B2.out.lt; have z0 : w3.cell? ⟨w.heap.size, 0, none⟩ = some (.int .i64 1) := b3.cell 0 rfl; have z1 : w3.cell? ⟨w.heap.size, 1, none⟩ = some (strV nm) := b3.cell 1 rfl; have z2 : w3.cell? ⟨w.heap.size, 2, none⟩ = some (strV to) := b3.cell 2 rfl; have z3 : w3.cell? ⟨w.heap.size, 3, none⟩ = some (.int .i64 q) := b3.cell 3 rfl; have z4 : w3.cell? ⟨w.heap.size, 4, none⟩ = some (.slice A n c) := b3.cell 4 rfl; have z5 : w3.cell? ⟨w.heap.size, 5, none⟩ = some (.slice A' n' c') := b3.cell 5 rfl; have HB3 := Lib.hid hb03; have HC3 := Lib.hid hc3; have HL3 := Lib.hid hl3; have HR3 := Lib.hid hr3; clear b3 hb3 hb03 hc3 hl3 hr3))
  go_wp2
  go_ret2
  exact ⟨A3, k3, c3, rfl, HC3.out, HL3.out, HR3.out, HB3.out⟩

set_option maxHeartbeats 4000000 in
theorem ApplyP2 (A0 : Option Addr) (n0 c0 : Nat) (A : Option Addr) (n c : Nat) (A' : Option Addr) (n' c' : Nat) (nm to : List UInt8) (q : Int) (w : World) (D : Int × TR)
    (hmay : ∀ w1, Below w.heap.size w w1 → Calls Tryz.prog 55 #[prV 2 nm to q A n c A' n' c'] w1 (TestEnd w1 true))
    (hm : ∀ w1, Below w.heap.size w w1 → Calls Tryz.prog 74 #[prV 2 nm to q A n c A' n' c', .slice A0 n0 c0] w1 (DoEnd w1 D)) :
    Calls Tryz.prog 43 #[.slice A0 n0 c0, prV 2 nm to q A n c A' n' c'] w (DoEnd w D) := by
  have hbx : Below w.heap.size w (box w 2 nm to q A n c A' n' c') := (Below.refl _ _).alloc (Nat.le_refl _) _
  have HBX := Lib.hid hbx; have H1 := Lib.hid hm; have HM := Lib.hid hmay
  have B0 := Lib.hid (Blk.new w 55 #[.int .i64 2, strV nm, strV to, .int .i64 q, .slice A n c, .slice A' n' c'])
  clear hbx hm hmay
  go_enter Tryz.func43, Tryz.ntmps43
  go_wp2_with fail
  refine (HM.out (box w 2 nm to q A n c A' n' c') HBX.out).mono ?_
  rintro e W ⟨rfl, hb1⟩
  have b0 := B0.out.below hb1 B0.out.lt
  have HB1 := Lib.hid (below_via HBX.out hb1)
  have BW := Lib.hid b0
  have HH : Hid (∀ w1, Below W.heap.size W.drew w1 → Blk w1 w.heap.size 55 #[.int .i64 2, strV nm, strV to, .int .i64 q, .slice A n c, .slice A' n' c']) := Lib.hid (fun w1 hb => (BW.out.drewN 1).below hb BW.out.lt)
  have HT : Hid (∀ w1, Below W.heap.size W.drew w1 → Below w.heap.size w w1) := Lib.hid (fun w1 hb => (below_drewN HB1.out 1).trans (hb.mono HB1.out.size))
  clear hb1 B0 HBX
  have x0 : W.cell? ⟨w.heap.size, 0, none⟩ = some (.int .i64 2) := b0.cell 0 rfl
  have x1 : W.cell? ⟨w.heap.size, 1, none⟩ = some (strV nm) := b0.cell 1 rfl
  have x2 : W.cell? ⟨w.heap.size, 2, none⟩ = some (strV to) := b0.cell 2 rfl
  have x3 : W.cell? ⟨w.heap.size, 3, none⟩ = some (.int .i64 q) := b0.cell 3 rfl
  have x4 : W.cell? ⟨w.heap.size, 4, none⟩ = some (.slice A n c) := b0.cell 4 rfl
  have x5 : W.cell? ⟨w.heap.size, 5, none⟩ = some (.slice A' n' c') := b0.cell 5 rfl
  clear b0
  have qi := fun w => index_do w 2 _ (by decide) rfl
  go_wp2_with fail
  go_region_held3 (fun w' => w'.cell? ⟨w.heap.size, 0, none⟩ = some (.int .i64 2) ∧ w'.cell? ⟨w.heap.size, 1, none⟩ = some (strV nm) ∧ w'.cell? ⟨w.heap.size, 2, none⟩ = some (strV to) ∧ w'.cell? ⟨w.heap.size, 3, none⟩ = some (.int .i64 q) ∧ w'.cell? ⟨w.heap.size, 4, none⟩ = some (.slice A n c) ∧ w'.cell? ⟨w.heap.size, 5, none⟩ = some (.slice A' n' c'))
    (first | go_keep | (exact ⟨y0, y1, y2, y3, y4, y5⟩) | (exact ⟨z0, z1, z2, z3, z4, z5⟩))
    (first
      | (go_at_call 56; refine (deeds W.drew).mono ?_; rintro e w2 ⟨rfl, hb2⟩; have b2 := HH.out w2 hb2; have hb02 := HT.out w2 hb2; have y0 : w2.cell? ⟨w.heap.size, 0, none⟩ = some (.int .i64 2) := b2.cell 0 rfl; have y1 : w2.cell? ⟨w.heap.size, 1, none⟩ = some (strV nm) := b2.cell 1 rfl; have y2 : w2.cell? ⟨w.heap.size, 2, none⟩ = some (strV to) := b2.cell 2 rfl; have y3 : w2.cell? ⟨w.heap.size, 3, none⟩ = some (.int .i64 q) := b2.cell 3 rfl; have y4 : w2.cell? ⟨w.heap.size, 4, none⟩ = some (.slice A n c) := b2.cell 4 rfl; have y5 : w2.cell? ⟨w.heap.size, 5, none⟩ = some (.slice A' n' c') := b2.cell 5 rfl; have HB2 := Lib.hid hb02; have B2 := Lib.hid b2; clear b2 hb2 hb02)
      | (go_at_call 74; refine (H1.out w2 HB2.out).mono ?_; rintro e w3 ⟨A3, k3, c3, rfl, hc3, hl3, hr3, hb3⟩; have hb03 := below_via HB2.out hb3; have b3 := B2.out.below hb3 B2.out.lt; have z0 : w3.cell? ⟨w.heap.size, 0, none⟩ = some (.int .i64 2) := b3.cell 0 rfl; have z1 : w3.cell? ⟨w.heap.size, 1, none⟩ = some (strV nm) := b3.cell 1 rfl; have z2 : w3.cell? ⟨w.heap.size, 2, none⟩ = some (strV to) := b3.cell 2 rfl; have z3 : w3.cell? ⟨w.heap.size, 3, none⟩ = some (.int .i64 q) := b3.cell 3 rfl; have z4 : w3.cell? ⟨w.heap.size, 4, none⟩ = some (.slice A n c) := b3.cell 4 rfl; have z5 : w3.cell? ⟨w.heap.size, 5, none⟩ = some (.slice A' n' c') := b3.cell 5 rfl; have HB3 := Lib.hid hb03; have HC3 := Lib.hid hc3; have HL3 := Lib.hid hl3; have HR3 := Lib.hid hr3; clear b3 hb3 hb03 hc3 hl3 hr3))
  go_wp2
  go_ret2
  exact ⟨A3, k3, c3, rfl, HC3.out, HL3.out, HR3.out, HB3.out⟩

set_option maxHeartbeats 4000000 in
theorem ApplyP3 (A0 : Option Addr) (n0 c0 : Nat) (A : Option Addr) (n c : Nat) (A' : Option Addr) (n' c' : Nat) (nm to : List UInt8) (q : Int) (w : World) (D : Int × TR)
    (hmay : ∀ w1, Below w.heap.size w w1 → Calls Tryz.prog 55 #[prV 3 nm to q A n c A' n' c'] w1 (TestEnd w1 true))
    (hm : ∀ w1, Below w.heap.size w w1 → Calls Tryz.prog 75 #[prV 3 nm to q A n c A' n' c', .slice A0 n0 c0] w1 (DoEnd w1 D)) :
    Calls Tryz.prog 43 #[.slice A0 n0 c0, prV 3 nm to q A n c A' n' c'] w (DoEnd w D) := by
  have hbx : Below w.heap.size w (box w 3 nm to q A n c A' n' c') := (Below.refl _ _).alloc (Nat.le_refl _) _
  have HBX := Lib.hid hbx; have H1 := Lib.hid hm; have HM := Lib.hid hmay
  have B0 := Lib.hid (Blk.new w 55 #[.int .i64 3, strV nm, strV to, .int .i64 q, .slice A n c, .slice A' n' c'])
  clear hbx hm hmay
  go_enter Tryz.func43, Tryz.ntmps43
  go_wp2_with fail
  refine (HM.out (box w 3 nm to q A n c A' n' c') HBX.out).mono ?_
  rintro e W ⟨rfl, hb1⟩
  have b0 := B0.out.below hb1 B0.out.lt
  have HB1 := Lib.hid (below_via HBX.out hb1)
  have BW := Lib.hid b0
  have HH : Hid (∀ w1, Below W.heap.size W.drew w1 → Blk w1 w.heap.size 55 #[.int .i64 3, strV nm, strV to, .int .i64 q, .slice A n c, .slice A' n' c']) := Lib.hid (fun w1 hb => (BW.out.drewN 1).below hb BW.out.lt)
  have HT : Hid (∀ w1, Below W.heap.size W.drew w1 → Below w.heap.size w w1) := Lib.hid (fun w1 hb => (below_drewN HB1.out 1).trans (hb.mono HB1.out.size))
  clear hb1 B0 HBX
  have x0 : W.cell? ⟨w.heap.size, 0, none⟩ = some (.int .i64 3) := b0.cell 0 rfl
  have x1 : W.cell? ⟨w.heap.size, 1, none⟩ = some (strV nm) := b0.cell 1 rfl
  have x2 : W.cell? ⟨w.heap.size, 2, none⟩ = some (strV to) := b0.cell 2 rfl
  have x3 : W.cell? ⟨w.heap.size, 3, none⟩ = some (.int .i64 q) := b0.cell 3 rfl
  have x4 : W.cell? ⟨w.heap.size, 4, none⟩ = some (.slice A n c) := b0.cell 4 rfl
  have x5 : W.cell? ⟨w.heap.size, 5, none⟩ = some (.slice A' n' c') := b0.cell 5 rfl
  clear b0
  have qi := fun w => index_do w 3 _ (by decide) rfl
  go_wp2_with fail
  go_region_held3 (fun w' => w'.cell? ⟨w.heap.size, 0, none⟩ = some (.int .i64 3) ∧ w'.cell? ⟨w.heap.size, 1, none⟩ = some (strV nm) ∧ w'.cell? ⟨w.heap.size, 2, none⟩ = some (strV to) ∧ w'.cell? ⟨w.heap.size, 3, none⟩ = some (.int .i64 q) ∧ w'.cell? ⟨w.heap.size, 4, none⟩ = some (.slice A n c) ∧ w'.cell? ⟨w.heap.size, 5, none⟩ = some (.slice A' n' c'))
    (first | go_keep | (exact ⟨y0, y1, y2, y3, y4, y5⟩) | (exact ⟨z0, z1, z2, z3, z4, z5⟩))
    (first
      | (go_at_call 56; refine (deeds W.drew).mono ?_; rintro e w2 ⟨rfl, hb2⟩; have b2 := HH.out w2 hb2; have hb02 := HT.out w2 hb2; have y0 : w2.cell? ⟨w.heap.size, 0, none⟩ = some (.int .i64 3) := b2.cell 0 rfl; have y1 : w2.cell? ⟨w.heap.size, 1, none⟩ = some (strV nm) := b2.cell 1 rfl; have y2 : w2.cell? ⟨w.heap.size, 2, none⟩ = some (strV to) := b2.cell 2 rfl; have y3 : w2.cell? ⟨w.heap.size, 3, none⟩ = some (.int .i64 q) := b2.cell 3 rfl; have y4 : w2.cell? ⟨w.heap.size, 4, none⟩ = some (.slice A n c) := b2.cell 4 rfl; have y5 : w2.cell? ⟨w.heap.size, 5, none⟩ = some (.slice A' n' c') := b2.cell 5 rfl; have HB2 := Lib.hid hb02; have B2 := Lib.hid b2; clear b2 hb2 hb02)
      | (go_at_call 75; refine (H1.out w2 HB2.out).mono ?_; rintro e w3 ⟨A3, k3, c3, rfl, hc3, hl3, hr3, hb3⟩; have hb03 := below_via HB2.out hb3; have b3 := B2.out.below hb3 B2.out.lt; have z0 : w3.cell? ⟨w.heap.size, 0, none⟩ = some (.int .i64 3) := b3.cell 0 rfl; have z1 : w3.cell? ⟨w.heap.size, 1, none⟩ = some (strV nm) := b3.cell 1 rfl; have z2 : w3.cell? ⟨w.heap.size, 2, none⟩ = some (strV to) := b3.cell 2 rfl; have z3 : w3.cell? ⟨w.heap.size, 3, none⟩ = some (.int .i64 q) := b3.cell 3 rfl; have z4 : w3.cell? ⟨w.heap.size, 4, none⟩ = some (.slice A n c) := b3.cell 4 rfl; have z5 : w3.cell? ⟨w.heap.size, 5, none⟩ = some (.slice A' n' c') := b3.cell 5 rfl; have HB3 := Lib.hid hb03; have HC3 := Lib.hid hc3; have HL3 := Lib.hid hl3; have HR3 := Lib.hid hr3; clear b3 hb3 hb03 hc3 hl3 hr3))
  go_wp2
  go_ret2
  exact ⟨A3, k3, c3, rfl, HC3.out, HL3.out, HR3.out, HB3.out⟩

set_option maxHeartbeats 4000000 in
theorem ApplyP4 (A0 : Option Addr) (n0 c0 : Nat) (A : Option Addr) (n c : Nat) (A' : Option Addr) (n' c' : Nat) (nm to : List UInt8) (q : Int) (w : World) (D : Int × TR)
    (hmay : ∀ w1, Below w.heap.size w w1 → Calls Tryz.prog 55 #[prV 4 nm to q A n c A' n' c'] w1 (TestEnd w1 true))
    (hm : ∀ w1, Below w.heap.size w w1 → Calls Tryz.prog 76 #[prV 4 nm to q A n c A' n' c', .slice A0 n0 c0] w1 (DoEnd w1 D)) :
    Calls Tryz.prog 43 #[.slice A0 n0 c0, prV 4 nm to q A n c A' n' c'] w (DoEnd w D) := by
  have hbx : Below w.heap.size w (box w 4 nm to q A n c A' n' c') := (Below.refl _ _).alloc (Nat.le_refl _) _
  have HBX := Lib.hid hbx; have H1 := Lib.hid hm; have HM := Lib.hid hmay
  have B0 := Lib.hid (Blk.new w 55 #[.int .i64 4, strV nm, strV to, .int .i64 q, .slice A n c, .slice A' n' c'])
  clear hbx hm hmay
  go_enter Tryz.func43, Tryz.ntmps43
  go_wp2_with fail
  refine (HM.out (box w 4 nm to q A n c A' n' c') HBX.out).mono ?_
  rintro e W ⟨rfl, hb1⟩
  have b0 := B0.out.below hb1 B0.out.lt
  have HB1 := Lib.hid (below_via HBX.out hb1)
  have BW := Lib.hid b0
  have HH : Hid (∀ w1, Below W.heap.size W.drew w1 → Blk w1 w.heap.size 55 #[.int .i64 4, strV nm, strV to, .int .i64 q, .slice A n c, .slice A' n' c']) := Lib.hid (fun w1 hb => (BW.out.drewN 1).below hb BW.out.lt)
  have HT : Hid (∀ w1, Below W.heap.size W.drew w1 → Below w.heap.size w w1) := Lib.hid (fun w1 hb => (below_drewN HB1.out 1).trans (hb.mono HB1.out.size))
  clear hb1 B0 HBX
  have x0 : W.cell? ⟨w.heap.size, 0, none⟩ = some (.int .i64 4) := b0.cell 0 rfl
  have x1 : W.cell? ⟨w.heap.size, 1, none⟩ = some (strV nm) := b0.cell 1 rfl
  have x2 : W.cell? ⟨w.heap.size, 2, none⟩ = some (strV to) := b0.cell 2 rfl
  have x3 : W.cell? ⟨w.heap.size, 3, none⟩ = some (.int .i64 q) := b0.cell 3 rfl
  have x4 : W.cell? ⟨w.heap.size, 4, none⟩ = some (.slice A n c) := b0.cell 4 rfl
  have x5 : W.cell? ⟨w.heap.size, 5, none⟩ = some (.slice A' n' c') := b0.cell 5 rfl
  clear b0
  have qi := fun w => index_do w 4 _ (by decide) rfl
  go_wp2_with fail
  go_region_held3 (fun w' => w'.cell? ⟨w.heap.size, 0, none⟩ = some (.int .i64 4) ∧ w'.cell? ⟨w.heap.size, 1, none⟩ = some (strV nm) ∧ w'.cell? ⟨w.heap.size, 2, none⟩ = some (strV to) ∧ w'.cell? ⟨w.heap.size, 3, none⟩ = some (.int .i64 q) ∧ w'.cell? ⟨w.heap.size, 4, none⟩ = some (.slice A n c) ∧ w'.cell? ⟨w.heap.size, 5, none⟩ = some (.slice A' n' c'))
    (first | go_keep | (exact ⟨y0, y1, y2, y3, y4, y5⟩) | (exact ⟨z0, z1, z2, z3, z4, z5⟩))
    (first
      | (go_at_call 56; refine (deeds W.drew).mono ?_; rintro e w2 ⟨rfl, hb2⟩; have b2 := HH.out w2 hb2; have hb02 := HT.out w2 hb2; have y0 : w2.cell? ⟨w.heap.size, 0, none⟩ = some (.int .i64 4) := b2.cell 0 rfl; have y1 : w2.cell? ⟨w.heap.size, 1, none⟩ = some (strV nm) := b2.cell 1 rfl; have y2 : w2.cell? ⟨w.heap.size, 2, none⟩ = some (strV to) := b2.cell 2 rfl; have y3 : w2.cell? ⟨w.heap.size, 3, none⟩ = some (.int .i64 q) := b2.cell 3 rfl; have y4 : w2.cell? ⟨w.heap.size, 4, none⟩ = some (.slice A n c) := b2.cell 4 rfl; have y5 : w2.cell? ⟨w.heap.size, 5, none⟩ = some (.slice A' n' c') := b2.cell 5 rfl; have HB2 := Lib.hid hb02; have B2 := Lib.hid b2; clear b2 hb2 hb02)
      | (go_at_call 76; refine (H1.out w2 HB2.out).mono ?_; rintro e w3 ⟨A3, k3, c3, rfl, hc3, hl3, hr3, hb3⟩; have hb03 := below_via HB2.out hb3; have b3 := B2.out.below hb3 B2.out.lt; have z0 : w3.cell? ⟨w.heap.size, 0, none⟩ = some (.int .i64 4) := b3.cell 0 rfl; have z1 : w3.cell? ⟨w.heap.size, 1, none⟩ = some (strV nm) := b3.cell 1 rfl; have z2 : w3.cell? ⟨w.heap.size, 2, none⟩ = some (strV to) := b3.cell 2 rfl; have z3 : w3.cell? ⟨w.heap.size, 3, none⟩ = some (.int .i64 q) := b3.cell 3 rfl; have z4 : w3.cell? ⟨w.heap.size, 4, none⟩ = some (.slice A n c) := b3.cell 4 rfl; have z5 : w3.cell? ⟨w.heap.size, 5, none⟩ = some (.slice A' n' c') := b3.cell 5 rfl; have HB3 := Lib.hid hb03; have HC3 := Lib.hid hc3; have HL3 := Lib.hid hl3; have HR3 := Lib.hid hr3; clear b3 hb3 hb03 hc3 hl3 hr3))
  go_wp2
  go_ret2
  exact ⟨A3, k3, c3, rfl, HC3.out, HL3.out, HR3.out, HB3.out⟩

set_option maxHeartbeats 1000000 in
theorem ApplyNo (A0 : Option Addr) (n0 c0 : Nat) (A : Option Addr) (n c : Nat) (A' : Option Addr) (n' c' : Nat) (k : Int) (nm to : List UInt8) (q : Int) (w : World)
    (hmay : ∀ w1, Below w.heap.size w w1 → Calls Tryz.prog 55 #[prV k nm to q A n c A' n' c'] w1 (TestEnd w1 false)) :
    Calls Tryz.prog 43 #[.slice A0 n0 c0, prV k nm to q A n c A' n' c'] w (DoEnd w (1, [])) := by
  have hbx : Below w.heap.size w (box w k nm to q A n c A' n' c') := (Below.refl _ _).alloc (Nat.le_refl _) _
  have HBX := Lib.hid hbx; have HM := Lib.hid hmay
  clear hbx hmay
  go_enter Tryz.func43, Tryz.ntmps43
  go_wp2_with fail
  refine (HM.out (box w k nm to q A n c A' n' c') HBX.out).mono ?_
  rintro e W ⟨rfl, hb1⟩
  have HB1 := Lib.hid (below_via HBX.out hb1)
  clear hb1
  go_wp2
  go_ret2
  exact doEnd_err rfl HB1.out

theorem doP_g (t : TR) (p : Ch) (h : mayP p = true) (hk : p.k ≠ 0) : doP t p = doG t p (get t p.nm) := by
  unfold doP
  rw [if_neg (by rw [h]; decide), if_neg hk]
  rfl
theorem doP_add (t : TR) (p : Ch) (h : mayP p = true) (hk : p.k = 0) : doP t p = if (get t p.nm).isSome then (5, []) else (0, put lt t p.nm []) := by
  unfold doP
  rw [if_neg (by rw [h]; decide), if_pos hk]

theorem ApplyP (A0 : Option Addr) (n0 c0 : Nat) (A : Option Addr) (n c : Nat) (A' : Option Addr) (n' c' : Nat) (t : TR) (p : Ch) (w : World) (hs : Wide t) (hn0 : t.length = n0) (hR : RdT w w.heap.size A0 t) (hv : PV w w.heap.size A n c A' n' c' p) :
    Calls Tryz.prog 43 #[.slice A0 n0 c0, prV p.k p.nm p.to p.h.pos A n c A' n' c'] w (DoEnd w (doP t p)) := by
  have hmay := fun w1 (hb : Below w.heap.size w w1) => MayP A n c A' n' c' p w1 (mayP p) (hv.mv hb) rfl
  cases hm : mayP p with
  | false =>
    rw [hm] at hmay
    have hd : doP t p = (1, []) := by unfold doP; rw [if_pos hm]
    rw [hd]
    exact ApplyNo A0 n0 c0 A n c A' n' c' p.k p.nm p.to p.h.pos w hmay
  | true =>
    rw [hm] at hmay
    have hc := mayP_cases.1 hm
    have hRt := fun w1 (hb : Below w.heap.size w w1) => rdT_mv hR hb
    obtain ⟨k, nm, to, h⟩ := p
    dsimp only at hmay hv hc ⊢
    rcases hc.2 with ⟨rfl | rfl, _, _⟩ | ⟨rfl, _, _, _⟩ | ⟨rfl, _, h3⟩ | ⟨rfl, _, h3, _⟩
    · exact ApplyP0 A0 n0 c0 A n c A' n' c' nm to h.pos w _ hmay (fun w1 hb => addM A0 n0 c0 A n c A' n' c' 0 nm to h.pos t w1 _ hs hn0 (hRt w1 hb) (doP_add t ⟨0, nm, to, h⟩ hm rfl).symm)
    · refine ApplyP1 A0 n0 c0 A n c A' n' c' nm to h.pos w _ hmay (fun w1 hb => removeM A0 n0 c0 A n c A' n' c' 1 nm to h.pos t w1 _ hs hn0 (hRt w1 hb) ?_)
      rw [doP_g t ⟨1, nm, to, h⟩ hm (by dsimp only; decide)]
      dsimp only
      cases get t nm <;> rfl
    · refine ApplyP2 A0 n0 c0 A n c A' n' c' nm to h.pos w _ hmay (fun w1 hb => moveM A0 n0 c0 A n c A' n' c' 2 nm to h.pos t w1 _ hs hn0 (hRt w1 hb) ?_)
      rw [doP_g t ⟨2, nm, to, h⟩ hm (by dsimp only; decide)]
      dsimp only
      cases get t nm <;> rfl
    · refine ApplyP3 A0 n0 c0 A n c A' n' c' nm to h.pos w _ hmay (fun w1 hb => patchM A0 n0 c0 A n c A' n' c' 3 nm to h.pos t w1 _ hs hn0 (hRt w1 hb) h rfl h3 (hv_mv hv.h hb) ?_)
      rw [doP_g t ⟨3, nm, to, h⟩ hm (by dsimp only; decide)]
      dsimp only
      cases get t nm <;> rfl
    · refine ApplyP4 A0 n0 c0 A n c A' n' c' nm to h.pos w _ hmay (fun w1 hb => setM A0 n0 c0 A n c A' n' c' 4 nm to h.pos t w1 _ hs hn0 (hRt w1 hb) h (by have := mayH_new h3; rw [hv.h.l'] at this; omega) (hv_mv hv.h hb) ?_)
      rw [doP_g t ⟨4, nm, to, h⟩ hm (by dsimp only; decide)]
      dsimp only
      cases hg : get t nm with
      | none => rfl
      | some l =>
        by_cases hl : l = h.old
        · simp [doG, lineE, lineL, hl]
        · simp [doG, lineE, lineL, hl]

end Pr
end Go.Proofs.YtfnhjflocfmcoaaGreat

set_option maxRecDepth 100000
namespace Go.Proofs.YtfnhjflocfmcoaaGreat
open Go.RowKit
set_option linter.unusedVariables false
namespace Pr
open Tx Df Sq Hk Tr

section
variable {A0 A A' D D' : Option Addr} {n0 c0 n c n' c' m e m' e' : Nat} {t P : TR} {p q p2 : Ch} {w : World} {b : Bool} {k : Nat} {r : Int}
end

theorem PV.len {w : World} {B : Nat} {A A' : Option Addr} {n c n' c' : Nat} {p : Ch} (h : PV w B A n c A' n' c' p) (hp : lightP p = true) : n ≤ 1000 ∧ n' ≤ 1000 := by
  have := lightP_h hp
  rw [h.h.l, h.h.l'] at this
  omega

end Pr
end Go.Proofs.YtfnhjflocfmcoaaGreat

namespace Go.Proofs.YtfnhjflocfmcoaaGreat
open Go.RowKit
set_option linter.unusedVariables false
namespace Pr
open Tx Df Sq Hk Tr

end Pr
end Go.Proofs.YtfnhjflocfmcoaaGreat

set_option maxRecDepth 100000
namespace Go.Proofs.YtfnhjflocfmcoaaGreat
open Go.RowKit
set_option linter.unusedVariables false
namespace Pr
open Tx Df Sq Hk Tr

/-- A tree of at most k files of at most l lines. -/
structure Most (t : TR) (k l : Nat) : Prop where
  s : Small t
  k : t.length ≤ k
  l : ∀ x ∈ t, x.2.length ≤ l
theorem applyL_300 {l : List (List UInt8)} {p : Ch} (hp : lightP p = true) : (lineL l p).length ≤ l.length + 300 ∧ ∀ x ∈ lineL l p, x ∈ l ∨ x.length ≤ 100000 := by
  have h2 := lightP_h hp
  have h4 : ∀ x ∈ p.h.new, x.length ≤ 100000 := fun x hx => by
    simp only [lightP, light, Bool.and_eq_true, decide_eq_true_eq, List.all_eq_true] at hp
    have := hp.1.2.2 x hx
    omega
  unfold lineL
  split
  · refine ⟨Nat.le_trans applyL_len (by omega), fun x hx => ?_⟩
    unfold applyL at hx
    split at hx
    · simp only [swp, List.mem_append] at hx
      rcases hx with hx | hx | hx
      · exact .inl (List.mem_of_mem_take hx)
      · exact .inr (h4 x hx)
      · exact .inl (List.mem_of_mem_drop hx)
    · cases hx
  · exact ⟨by omega, fun x hx => .inr (h4 x hx)⟩
theorem Most.put {t : TR} {k l : Nat} {s : List UInt8} {ls : List (List UInt8)} (h : Most t k l) (hk : k + 1 ≤ 100000) (hs : s.length ≤ 100000) (hl : SmallL ls) (hll : ls.length ≤ l) : Most (put lt t s ls) (k + 1) l := by
  obtain ⟨h1, h2⟩ := small_put h.s h.k hk hs hl
  refine ⟨h1, h2, fun x hx => ?_⟩
  rcases put_mem hx with rfl | hx
  · exact hll
  · exact h.l x hx
theorem Most.del {t : TR} {k l : Nat} {s : List UInt8} (h : Most t k l) : Most (del t s) k l := by
  obtain ⟨h1, h2⟩ := small_del (s := s) h.s h.k
  exact ⟨h1, h2, fun x hx => h.l x ((del_sub t s).subset hx)⟩
theorem Most.mono {t : TR} {k l k' l' : Nat} (h : Most t k l) (hk : k ≤ k') (hl : l ≤ l') : Most t k' l' := ⟨h.s, Nat.le_trans h.k hk, fun x hx => Nat.le_trans (h.l x hx) hl⟩
theorem Most.do {t u : TR} {p : Ch} {r : Int} {k l : Nat} (h : Most t k l) (hk : k + 1 ≤ 100000) (hl : l + 300 ≤ 100000) (hp : lightP p = true) (hd : doP t p = (r, u)) : Most u (k + 1) (l + 300) := by
  have hnm : p.nm.length ≤ 100000 ∧ p.to.length ≤ 100000 := by
    simp only [lightP, Bool.and_eq_true, decide_eq_true_eq] at hp
    omega
  by_cases h0 : r = 0
  · subst h0
    obtain ⟨_, hd⟩ := doP_cases hd
    rcases hd with ⟨_, _, rfl⟩ | ⟨_, _, rfl⟩ | ⟨_, ls, hg, _, rfl⟩ | ⟨_, ls, hg, _, rfl⟩
    · exact (h.mono (Nat.le_refl _) (Nat.le_add_right _ _)).put hk hnm.1 ⟨Nat.zero_le _, fun x hx => by cases hx⟩ (Nat.zero_le _)
    · exact h.del.mono (Nat.le_succ _) (Nat.le_add_right _ _)
    · have h2 := h.s.all _ (get_mem hg)
      exact (h.del.mono (Nat.le_refl _) (Nat.le_add_right _ _)).put hk hnm.2 ⟨h2.l, h2.s⟩ (Nat.le_trans (h.l _ (get_mem hg)) (Nat.le_add_right _ _))
    · have h2 := h.s.all _ (get_mem hg)
      have h3 := h.l _ (get_mem hg)
      obtain ⟨a1, a2⟩ := applyL_300 (l := ls) hp
      dsimp only at h3
      exact (h.mono (Nat.le_refl _) (Nat.le_add_right _ _)).put hk hnm.1 ⟨by omega, fun x hx => (a2 x hx).elim (fun h => h2.s x h) id⟩ (by omega)
  · have h1 := doP_none (t := t) (p := p) (by rw [hd]; exact h0)
    rw [hd] at h1
    dsimp only at h1
    subst h1
    exact ⟨⟨by simp, fun x hx => by cases hx⟩, Nat.zero_le _, fun x hx => by cases hx⟩
theorem most_light {t : TR} (hl : lightT t = true) : Most t 40 300 := by
  obtain ⟨h40, hs⟩ := lightT_small hl
  refine ⟨hs, h40, fun x hx => ?_⟩
  simp only [lightT, Bool.and_eq_true, decide_eq_true_eq, List.all_eq_true] at hl
  have := hl.2 x hx
  simp only [light, Bool.and_eq_true, decide_eq_true_eq] at this
  omega
theorem grown {t u : TR} {p : Ch} {r : Int} (hl : lightT t = true) (hp : lightP p = true) (hd : doP t p = (r, u)) : Most u 41 600 := (most_light hl).do (by decide) (by decide) hp hd
end Pr
end Go.Proofs.YtfnhjflocfmcoaaGreat

set_option maxRecDepth 100000
namespace Go.Proofs.YtfnhjflocfmcoaaGreat
open Go.RowKit
set_option linter.unusedVariables false
set_option linter.unusedSimpArgs false
namespace Fl
open Tx Df Sq Hk Tr Pr

/-- One of a list of changes. -/
theorem RdP.elem {W : World} {S : Nat → Prop} {A : Option Addr} {l : List Ch} (h : RdP W S A l) {k : Nat} (hk : k < l.length) :
    ∃ a x B n c D m d, A = some a ∧ S a.block ∧ l[k]? = some x ∧
      W.cell? (a.add (k * 6)) = some (.int .i64 x.k) ∧ W.cell? ⟨(a.add (k * 6)).block, (a.add (k * 6)).off + 1, none⟩ = some (strV x.nm) ∧ W.cell? ⟨(a.add (k * 6)).block, (a.add (k * 6)).off + 2, none⟩ = some (strV x.to) ∧
      W.cell? ⟨(a.add (k * 6)).block, (a.add (k * 6)).off + 3, none⟩ = some (.int .i64 x.h.pos) ∧ W.cell? ⟨(a.add (k * 6)).block, (a.add (k * 6)).off + 4, none⟩ = some (.slice B n c) ∧ W.cell? ⟨(a.add (k * 6)).block, (a.add (k * 6)).off + 5, none⟩ = some (.slice D m d) ∧
      PG W S B n c D m d x := by
  obtain ⟨a, e, hS, c0, c1, c2, c3, B, n, c, D, m, d, c4, c5, c6⟩ := h.at_ hk
  exact ⟨a, l[k], B, n, c, D, m, d, e, hS, List.getElem?_eq_getElem hk, c0, c1, c2, c3, c4, c5, c6⟩
theorem take_at {α : Type} {l : List α} {k : Nat} {x : α} (h : l[k]? = some x) : l.take (k + 1) = l.take k ++ [x] := by
  rw [List.take_add_one, h]; rfl
theorem drop_at {α : Type} {l : List α} {k : Nat} {x : α} (h : l[k]? = some x) : l.drop k = x :: l.drop (k + 1) := by
  obtain ⟨hk, e⟩ := List.getElem?_eq_some_iff.1 h
  rw [List.drop_eq_getElem_cons hk, e]

/-- Light, and at a place up to 2^19. -/
def okP (p : Ch) : Bool := lightP p && decide (p.h.pos ≤ 524288)
def fewP (l : List Ch) (most : Nat) : Bool := decide (l.length ≤ most) && l.all okP
theorem fewP_no {l : List Ch} {x : Ch} {k most : Nat} (hx : l[k]? = some x) (h : okP x = false) : fewP l most = false := by
  have : l.all okP = false := by
    rw [List.all_eq_false]
    exact ⟨x, List.mem_of_getElem? hx, by rw [h]; decide⟩
  unfold fewP
  rw [this, Bool.and_false]

set_option maxHeartbeats 2000000 in
theorem Few (A : Option Addr) (n c most : Nat) (l : List Ch) (w : World) (b : Bool) (hm : most ≤ 1000) (h : PrsArg w A n c l) (hb : fewP l most = b) :
    Calls Tryz.prog 33 #[.slice A n c, .int .i64 (most : Int)] w (BoolEnd w b) := by
  have HR := Lib.hid h.rd; have HN := Lib.hid h.len
  have HB := Lib.hid hb.symm
  have hle := h.le
  clear h hb
  unfold maxLen at hle
  go_enter Tryz.func33, Tryz.ntmps33
  by_cases h0 : (most : Int) < (n : Int)
  · go_wp2
    go_ret
    exact ⟨ret_bool (by rw [HB.out]; unfold fewP; rw [HN.out, decide_eq_false (by omega)]; rfl), Below.refl _ _⟩
  · go_wp2
    go_loopw [5] (fun i wr => ∃ k : Nat, k ≤ n ∧ i = .int .i64 (k : Int) ∧ (l.take k).all okP = true ∧ Below w.heap.size w wr) (fun i _ => n - (intOf i).toNat)
    case atStart => exact ⟨0, Nat.zero_le _, rfl, rfl, Below.refl _ _⟩
    case round =>
      obtain ⟨k, hk, rfl, hall, hbw⟩ := hrel
      have HBW := Lib.hid hbw; have HAL := Lib.hid hall; clear hbw hall
      by_cases hlt : k < n
      · have hki : (k : Int) < (n : Int) := by omega
        obtain ⟨a, x, B, i, j, D, m, d, rfl, hS, hx, c0, c1, c2, c3, c4, c5, c6⟩ := ((HR.out.mv HBW.out).elem (k := k) (by rw [HN.out]; exact hlt))
        have HX := Lib.hid hx; have HP := Lib.hid c6; clear hx c6 hS
        go_wp2_with fail
        obtain ⟨bl, hbl⟩ : ∃ b, lightP x = b := ⟨_, rfl⟩
        refine (LightP B i j D m d _ x _ bl (Nat.le_refl _) HP.out.pv hbl).mono ?_
        rintro e w2 ⟨rfl, hb2⟩
        have HBL := Lib.hid hbl; clear hbl
        have hbw2 := below_mv HBW.out hb2
        have HBW2 := Lib.hid hbw2; clear hbw2
        have c3' : w2.cell? ⟨(a.add (k * 6)).block, (a.add (k * 6)).off + 3, none⟩ = some (.int .i64 x.h.pos) := cell_to (alike_below hb2) (World.block_lt_of_cell? _ _ c3) c3
        clear c0 c1 c2 c3 c4 c5 hb2
        cases bl with
        | false =>
          go_wp2
          go_ret
          exact ⟨ret_bool (by rw [HB.out, fewP_no HX.out (by unfold okP; rw [HBL.out]; rfl)]), HBW2.out⟩
        | true =>
        by_cases hp : 524288 < x.h.pos
        · go_wp2
          go_ret
          exact ⟨ret_bool (by rw [HB.out, fewP_no HX.out (by unfold okP; rw [HBL.out, decide_eq_false (by omega)]; rfl)]), HBW2.out⟩
        · go_wp2_with fail
          refine ⟨⟨k + 1, by omega, by go_num, ?_, HBW2.out⟩, by simp [intOf]; omega⟩
          rw [take_at HX.out, List.all_append, HAL.out]
          simp [okP, HBL.out]
          omega
      · go_wp2
        go_ret
        refine ⟨ret_bool ?_, HBW.out⟩
        have ek : l.take k = l := List.take_of_length_le (by rw [HN.out]; omega)
        have hall := HAL.out
        rw [ek] at hall
        rw [HB.out]
        unfold fewP
        rw [hall, HN.out, decide_eq_true (by omega)]
        rfl

end Fl
end Go.Proofs.YtfnhjflocfmcoaaGreat

set_option maxRecDepth 100000
namespace Go.Proofs.YtfnhjflocfmcoaaGreat
open Go.RowKit
set_option linter.unusedVariables false
namespace Rg

/-- J does not mind new blocks, nor the turn of one block, at or beyond B, that is Free. -/
def Ab {β : Type} (Free : Obj → Prop) (B : Nat) (J : β → World → Prop) : Prop :=
  ∀ s W W' row, J s W → W.grownBy W' row → (∀ r, row = some r → B ≤ r ∧ ∃ o : Obj, W.heap[r]? = some o ∧ Free o) → J s W'

section
variable {β : Type} {Free : Obj → Prop} {B : Nat} {J J' : β → World → Prop}
theorem Ab.alloc (h : Ab Free B J) {s : β} {W : World} (o : Obj) (hs : J s W) : J s (W.alloc o) := h s W _ none hs (World.grownBy_alloc W o none) (fun r e => by cases e)
theorem Ab.new (h : Ab Free B J) {s : β} {W W' : World} (hs : J s W) (hg : W.grownBy W' none) : J s W' := h s W _ none hs hg (fun r e => by cases e)
theorem Ab.put (h : Ab Free B J) {s : β} {W : World} {l : Nat} {o : Obj} (o' : Obj) (hs : J s W) (hB : B ≤ l) (hl : W.heap[l]? = some o) (ho : Free o) : J s (W.putObj l o') :=
  h s W _ (some l) hs (grownBy_putObj' W l o') (fun r e => by cases e; exact ⟨hB, o, hl, ho⟩)
/-- What lay in w0 and is no other block than 'row' is as it was. -/
theorem grow_trans {w W W' : World} {r r' : Option Nat} (h : w.grownBy W r) (k : W.grownBy W' r') (hr : ∀ j, r' = some j → w.heap.size ≤ j ∨ r = some j) : w.grownBy W' r :=
  ⟨k.os.trans h.os, k.tape.trans h.tape, k.output.trans h.output, Nat.le_trans h.size k.size, fun j hj hne => by
    refine (k.block j (by have := h.size; omega) (fun e => ?_)).trans (h.block j hj hne)
    rcases hr j e.symm with h1 | h1
    · omega
    · exact hne h1.symm⟩
end

section
variable {P : Program} {n : Nat}

end

section
variable {P : Program} {ops : Array Oper} {Q : Exit → Act → World → Prop} {l n : Nat} {md : Region.Mode}

end

section
variable {F : Fence} {n : Nat} {P : Program} {ops : Array Oper} {Q : Exit → Act → World → Prop} {md : Region.Mode}

end

end Rg
end Go.Proofs.YtfnhjflocfmcoaaGreat

set_option maxRecDepth 100000
namespace Go.Proofs.YtfnhjflocfmcoaaGreat
open Go.RowKit
set_option linter.unusedVariables false
namespace Fl
open Tx Df Sq Hk Tr Pr

/-- The blocks that there are, but for those of R. -/
def But (W : World) (R : Nat → Prop) : Nat → Prop := fun b => b < W.heap.size ∧ ¬ R b
theorem but_up {W W' : World} {R : Nat → Prop} (hs : W.heap.size ≤ W'.heap.size) : ∀ b, But W R b → But W' R b := fun b h => ⟨Nat.lt_of_lt_of_le h.1 hs, h.2⟩
/-- Rows of cells in blocks that S names are as they were. -/
def KeepC (S : Nat → Prop) (W W' : World) : Prop := ∀ (b : Nat) (c : Array Value) (t : TypeId) (f : Nat × Nat), S b → W.heap[b]? = some (.cells c t f) → W'.heap[b]? = some (.cells c t f)
theorem cell_cells {W : World} {p : Addr} {u : Value} (h : W.cell? p = some u) : ∃ c t f, W.heap[p.block]? = some (.cells c t f) := by
  unfold World.cell? at h
  split at h
  · rename_i e; exact ⟨_, _, _, e⟩
  · cases h
section
variable {W W' : World} {S T : Nat → Prop} {A B : Option Addr} {xs : List Value} {n c m d base : Nat} {x : Ch} {l : List Ch} {v : Value} {row : Option Nat}
theorem KeepC.cell {p : Addr} {u : Value} (h : KeepC S W W') (hp : S p.block) (hc : W.cell? p = some u) : W'.cell? p = some u := by
  obtain ⟨c, t, f, e⟩ := cell_cells hc
  exact (World.cell?_of_block ((h _ c t f hp e).trans e.symm)).trans hc
theorem RdG.kc (h : RdG W S A xs) (hk : KeepC S W W') : RdG W' S A xs := h.imp id fun ⟨a, e, h1, h2⟩ => ⟨a, e, h1, fun j u hu => hk.cell (by rw [add_block]; exact h1) (h2 j u hu)⟩
theorem PG.kc (h : PG W S A n c B m d x) (hk : KeepC S W W') : PG W' S A n c B m d x := ⟨h.l, h.l', h.k, h.k', h.mm, h.mm', h.r.kc hk, h.r'.kc hk, h.pp, h.kk, h.nm, h.to, h.s, h.s'⟩
theorem PCells.kc (h : PCells W S l xs) (hk : KeepC S W W') : PCells W' S l xs := fun k x hx => by
  obtain ⟨A, n, c, B, m, d, h0, h1, h2, h3, h4, h5, h6⟩ := h k x hx
  exact ⟨A, n, c, B, m, d, h0, h1, h2, h3, h4, h5, h6.kc hk⟩
/-- .. where other blocks than its row and its lines' grow. -/
theorem OwnS.gr (h : OwnS W S base v l) (hg : W.grownBy W' row) (hne : ∀ g, v.ownBlock = some g → row ≠ some g) (hS : ∀ b, S b → row ≠ some b) : OwnS W' S base v l := by
  obtain ⟨xs, h1, h2⟩ := h
  refine ⟨xs, h1.kept hg ?_, h2.to ((alike_gr hg).mono fun b hb e => hS b hb e.symm)⟩
  rcases h1.2 with ⟨rfl, _⟩ | ⟨g, cap, cur, rfl, _, hgb, _⟩
  · exact .inl rfl
  · exact .inr fun e => hne g rfl e.symm
end

open Rg
section
variable {β : Type} {B : Nat}
end

/-- The cells of m changes can be read. -/
def Cells6 (W : World) (A : Option Addr) (m : Nat) : Prop := ∀ i, i < m → ∃ a v0 v1 v2 v3 v4 v5, A = some a ∧ W.cell? (a.add (i * 6)) = some v0 ∧ W.cell? ⟨(a.add (i * 6)).block, (a.add (i * 6)).off + 1, none⟩ = some v1 ∧ W.cell? ⟨(a.add (i * 6)).block, (a.add (i * 6)).off + 2, none⟩ = some v2 ∧
  W.cell? ⟨(a.add (i * 6)).block, (a.add (i * 6)).off + 3, none⟩ = some v3 ∧ W.cell? ⟨(a.add (i * 6)).block, (a.add (i * 6)).off + 4, none⟩ = some v4 ∧ W.cell? ⟨(a.add (i * 6)).block, (a.add (i * 6)).off + 5, none⟩ = some v5
theorem Cells6.kc {W W' : World} {A : Option Addr} {m : Nat} (h : Cells6 W A m) (hk : KeepC (fun _ => True) W W') : Cells6 W' A m := fun i hi => by
  obtain ⟨a, v0, v1, v2, v3, v4, v5, e, h0, h1, h2, h3, h4, h5⟩ := h i hi
  exact ⟨a, v0, v1, v2, v3, v4, v5, e, hk.cell trivial h0, hk.cell trivial h1, hk.cell trivial h2, hk.cell trivial h3, hk.cell trivial h4, hk.cell trivial h5⟩
end Fl
end Go.Proofs.YtfnhjflocfmcoaaGreat

set_option maxRecDepth 100000
namespace Go.Proofs.YtfnhjflocfmcoaaGreat
open Go.RowKit
set_option linter.unusedVariables false
namespace Tg
open Tx Df Sq Hk Tr Pr Fl Pn

/-- Two slice values that read, in blocks that S names, as a patch's Deps and changes. -/
structure NG (w : World) (S : Nat → Prop) (D : Option Addr) (dn dc : Nat) (A : Option Addr) (n c : Nat) (p : Nm) : Prop where
  dl : p.deps.length = dn
  dk : dn ≤ dc
  dm : dn ≤ maxLen
  dr : RdG w S D (idsV p.deps)
  tm : p.txt.length ≤ maxLen
  l : p.l.length = n
  k : n ≤ c
  m : n ≤ maxLen
  r : RdP w S A p.l
section
variable {W W' : World} {S T : Nat → Prop} {D A : Option Addr} {dn dc n c B base : Nat} {p : Nm} {l : List Ch} {xs : List Value}
theorem PrAt.kc {a : Addr} {k : Nat} {x : Ch} (h : PrAt W S a k x) (hS : S a.block) (hk : KeepC S W W') : PrAt W' S a k x := by
  obtain ⟨c0, c1, c2, c3, A, n, c, B, m, d, c4, c5, c6⟩ := h
  have hb : S (a.add (k * 6)).block := by rw [add_block]; exact hS
  exact ⟨hk.cell hb c0, hk.cell hb c1, hk.cell hb c2, hk.cell hb c3, A, n, c, B, m, d, hk.cell hb c4, hk.cell hb c5, c6.kc hk⟩
theorem RdP.kc_ (h : RdP W S A l) (hk : KeepC S W W') : RdP W' S A l := h.imp id fun ⟨a, e, h1, h2⟩ => ⟨a, e, h1, fun k x hx => PrAt.kc (h2 k x hx) h1 hk⟩
theorem NG.mono (h : NG W S D dn dc A n c p) (hs : ∀ b, S b → T b) : NG W T D dn dc A n c p := ⟨h.dl, h.dk, h.dm, h.dr.mono hs, h.tm, h.l, h.k, h.m, h.r.mono hs⟩
theorem NG.to_ (h : NG W S D dn dc A n c p) (ha : Fl.Alike S W W') : NG W' S D dn dc A n c p := ⟨h.dl, h.dk, h.dm, h.dr.to ha, h.tm, h.l, h.k, h.m, h.r.to ha⟩
theorem NG.kc (h : NG W S D dn dc A n c p) (hk : KeepC S W W') : NG W' S D dn dc A n c p := ⟨h.dl, h.dk, h.dm, h.dr.kc hk, h.tm, h.l, h.k, h.m, RdP.kc_ h.r hk⟩
theorem NG.nv (h : NG W (· < B) D dn dc A n c p) : NV W B D dn dc A n c p := ⟨h.dl, h.dk, h.dm, h.dr, h.tm, h.l, h.k, h.m, h.r⟩
theorem ng_of (h : NV W B D dn dc A n c p) : NG W (· < B) D dn dc A n c p := ⟨h.dl, h.dk, h.dm, h.dr, h.tm, h.l, h.k, h.m, h.r⟩
end

/-- The blocks made behind w. -/
def Since (w W : World) : Nat → Prop := fun b => w.heap.size ≤ b ∧ b < W.heap.size
/-- The cells of patches, as far as they go; what they hold lies in blocks that S names. -/
def NCellsS (W : World) (S : Nat → Prop) (l : List Nm) (xs : List Value) : Prop :=
  ∀ (k : Nat) x, l[k]? = some x → ∃ D dn dc A n c, xs[k * 5]? = some (.int .i64 x.id.1) ∧ xs[k * 5 + 1]? = some (.int .i64 x.id.2) ∧ xs[k * 5 + 2]? = some (.slice D dn dc) ∧ xs[k * 5 + 3]? = some (strV x.txt) ∧ xs[k * 5 + 4]? = some (.slice A n c) ∧ NG W S D dn dc A n c x
section
variable {W W' : World} {S T : Nat → Prop} {N base : Nat} {v : Value} {l u : List Nm} {xs ys : List Value}
theorem NCellsS.mono (h : NCellsS W S l xs) (hs : ∀ b, S b → T b) : NCellsS W T l xs := fun k x hx => by
  obtain ⟨D, dn, dc, A, n, c, h0, h1, h2, h3, h4, h5⟩ := h k x hx
  exact ⟨D, dn, dc, A, n, c, h0, h1, h2, h3, h4, h5.mono hs⟩
theorem NCellsS.to (h : NCellsS W S l xs) (ha : Fl.Alike S W W') : NCellsS W' S l xs := fun k x hx => by
  obtain ⟨D, dn, dc, A, n, c, h0, h1, h2, h3, h4, h5⟩ := h k x hx
  exact ⟨D, dn, dc, A, n, c, h0, h1, h2, h3, h4, h5.to_ ha⟩
theorem NCellsS.kc (h : NCellsS W S l xs) (hk : KeepC S W W') : NCellsS W' S l xs := fun k x hx => by
  obtain ⟨D, dn, dc, A, n, c, h0, h1, h2, h3, h4, h5⟩ := h k x hx
  exact ⟨D, dn, dc, A, n, c, h0, h1, h2, h3, h4, h5.kc hk⟩
theorem NCellsS.cells (h : NCellsS W (· < N) l xs) : NCells W N l xs := fun k x hx => by
  obtain ⟨D, dn, dc, A, n, c, h0, h1, h2, h3, h4, h5⟩ := h k x hx
  exact ⟨D, dn, dc, A, n, c, h0, h1, h2, h3, h4, h5.nv⟩

/-- Patches in a row of one's own; what they hold lies in blocks that S names. -/
def OwnT (W : World) (S : Nat → Prop) (base : Nat) (v : Value) (l : List Nm) : Prop := ∃ xs, W.ownsRow base 41 5 v l.length xs ∧ NCellsS W S l xs
theorem OwnT.own (h : OwnT W (· < N) base v l) : OwnM W N base v l := by
  obtain ⟨xs, h1, h2⟩ := h
  exact ⟨xs, h1, h2.cells⟩
theorem OwnT.mono (h : OwnT W S base v l) (hs : ∀ b, S b → T b) : OwnT W T base v l := by
  obtain ⟨xs, h1, h2⟩ := h
  exact ⟨xs, h1, h2.mono hs⟩
theorem OwnT.below (h : OwnT W S base v l) (hb : Below W.heap.size W W') : OwnT W' S base v l := by
  obtain ⟨xs, h1, h2⟩ := h
  exact ⟨xs, own_gr h1 (below_gr_row hb), h2.to (fun b _ hl => hb.block b hl)⟩
theorem OwnT.set (h : OwnT W S base v l) {b : Nat} (hb : some b ≠ v.ownBlock) (hN : ¬ S b) (j : Nat) (x : Value) : OwnT (W.setCell ⟨b, j, none⟩ x) S base v l := by
  obtain ⟨xs, h1, h2⟩ := h
  refine ⟨xs, h1.kept (grownBy_set W b j x) ?_, h2.to ((alike_set W b j x).mono fun k hk e => hN (e ▸ hk))⟩
  rcases h1.2 with ⟨rfl, _⟩ | ⟨g, cap, cur, rfl, _⟩
  · exact .inl rfl
  · exact .inr fun e => hb e.symm
theorem ownT_ge (h : OwnT W S base v l) : ∀ g, v.ownBlock = some g → base ≤ g := fun g hg => (h.elim fun xs h => own_ge h.1 g hg)
/-- One of a row's patches. -/
theorem OwnT.elem {g n cap k : Nat} {x : Nm} (h : OwnT W S base (.slice (some ⟨g, 0, none⟩) n cap) l) (hn : l.length = n) (hx : l[k]? = some x) :
    ∃ D dn dc A m c, W.cell? ⟨g, k * 5, none⟩ = some (.int .i64 x.id.1) ∧ W.cell? ⟨g, k * 5 + 1, none⟩ = some (.int .i64 x.id.2) ∧ W.cell? ⟨g, k * 5 + 2, none⟩ = some (.slice D dn dc) ∧ W.cell? ⟨g, k * 5 + 3, none⟩ = some (strV x.txt) ∧ W.cell? ⟨g, k * 5 + 4, none⟩ = some (.slice A m c) ∧
      (∀ j, W.frozen? ⟨g, j, none⟩ = false) ∧ NG W S D dn dc A m c x := by
  subst hn
  obtain ⟨xs, hr, hF⟩ := h
  obtain ⟨D, dn, dc, A, m, c, h0, h1, h2, h3, h4, h5⟩ := hF k x hx
  have hk : k < l.length := (List.getElem?_eq_some_iff.1 hx).1
  exact ⟨D, dn, dc, A, m, c, by rw [hr.cellAt (k * 5) (by omega)]; exact h0, by rw [hr.cellAt (k * 5 + 1) (by omega)]; exact h1, by rw [hr.cellAt (k * 5 + 2) (by omega)]; exact h2, by rw [hr.cellAt (k * 5 + 3) (by omega)]; exact h3, by rw [hr.cellAt (k * 5 + 4) (by omega)]; exact h4, fun j => hr.frozenAt _, h5⟩

theorem NCellsS.set {k : Nat} {D A : Option Addr} {dn dc n c : Nat} {y : Nm} (h : NCellsS W S l xs) (hl : xs.length = l.length * 5) (hy : NG W S D dn dc A n c y) :
    NCellsS W S (l.set k y) (((((xs.set (k * 5) (.int .i64 y.id.1)).set (k * 5 + 1) (.int .i64 y.id.2)).set (k * 5 + 2) (.slice D dn dc)).set (k * 5 + 3) (strV y.txt)).set (k * 5 + 4) (.slice A n c)) := fun p x hx => by
  by_cases hp : p = k
  · subst hp
    have hk : p < l.length := by
      have := (List.getElem?_eq_some_iff.1 hx).1
      simpa using this
    rw [List.getElem?_set_self hk] at hx
    injection hx with hx
    subst hx
    refine ⟨D, dn, dc, A, n, c, ?_, ?_, ?_, ?_, ?_, hy⟩
    · rw [List.getElem?_set_ne (by omega), List.getElem?_set_ne (by omega), List.getElem?_set_ne (by omega), List.getElem?_set_ne (by omega), List.getElem?_set_self (by omega)]
    · rw [List.getElem?_set_ne (by omega), List.getElem?_set_ne (by omega), List.getElem?_set_ne (by omega), List.getElem?_set_self (by simp; omega)]
    · rw [List.getElem?_set_ne (by omega), List.getElem?_set_ne (by omega), List.getElem?_set_self (by simp; omega)]
    · rw [List.getElem?_set_ne (by omega), List.getElem?_set_self (by simp; omega)]
    · rw [List.getElem?_set_self (by simp; omega)]
  · rw [List.getElem?_set_ne (fun e => hp e.symm)] at hx
    obtain ⟨D', dn', dc', A', n', c', h0, h1, h2, h3, h4, h5⟩ := h p x hx
    have ne : ∀ a b, a < 5 → b < 5 → k * 5 + a ≠ p * 5 + b := fun a b ha hb => by omega
    have n0 : ∀ b, b < 5 → k * 5 ≠ p * 5 + b := fun b hb => by omega
    have key : ∀ b, b < 5 → (((((xs.set (k * 5) (.int .i64 y.id.1)).set (k * 5 + 1) (.int .i64 y.id.2)).set (k * 5 + 2) (.slice D dn dc)).set (k * 5 + 3) (strV y.txt)).set (k * 5 + 4) (.slice A n c))[p * 5 + b]? = xs[p * 5 + b]? := fun b hb => by
      rw [List.getElem?_set_ne (ne 4 b (by decide) hb), List.getElem?_set_ne (ne 3 b (by decide) hb), List.getElem?_set_ne (ne 2 b (by decide) hb), List.getElem?_set_ne (ne 1 b (by decide) hb), List.getElem?_set_ne (n0 b hb)]
    exact ⟨D', dn', dc', A', n', c', (key 0 (by decide)).trans h0, (key 1 (by decide)).trans h1, (key 2 (by decide)).trans h2, (key 3 (by decide)).trans h3, (key 4 (by decide)).trans h4, h5⟩

end

section
variable {X w : World} {B b g : Nat} {t : TypeId} {cs : Array Value} {r : Option Nat}
theorem blk5 {u0 u1 u2 u3 u4 : Value} (h : Blk X b t #[u0, u1, u2, u3, u4]) (v0 v1 v2 v3 v4 : Value) : Blk (((((X.setCell ⟨b, 0, none⟩ v0).setCell ⟨b, 1, none⟩ v1).setCell ⟨b, 2, none⟩ v2).setCell ⟨b, 3, none⟩ v3).setCell ⟨b, 4, none⟩ v4) b t #[v0, v1, v2, v3, v4] := by
  have h0 : Blk (X.setCell ⟨b, 0, none⟩ v0) b t #[v0, u1, u2, u3, u4] := h.set 0 v0
  have h1 : Blk ((X.setCell ⟨b, 0, none⟩ v0).setCell ⟨b, 1, none⟩ v1) b t #[v0, v1, u2, u3, u4] := h0.set 1 v1
  have h2 : Blk (((X.setCell ⟨b, 0, none⟩ v0).setCell ⟨b, 1, none⟩ v1).setCell ⟨b, 2, none⟩ v2) b t #[v0, v1, v2, u3, u4] := h1.set 2 v2
  have h3 : Blk ((((X.setCell ⟨b, 0, none⟩ v0).setCell ⟨b, 1, none⟩ v1).setCell ⟨b, 2, none⟩ v2).setCell ⟨b, 3, none⟩ v3) b t #[v0, v1, v2, v3, u4] := h2.set 3 v3
  exact h3.set 4 v4
end

/-- The cells of a patch. -/
abbrev nmC (x : Nm) (D : Option Addr) (dn dc : Nat) (A : Option Addr) (n c : Nat) : Array Value := #[.int .i64 x.id.1, .int .i64 x.id.2, .slice D dn dc, strV x.txt, .slice A n c]
/-- A patch that has nothing. -/
def noN : Nm := ⟨(0, 0), [], [], []⟩
/-- The cells of m patches can be read. -/
def Cells5 (W : World) (A : Option Addr) (m : Nat) : Prop := ∀ i, i < m → ∃ a v0 v1 v2 v3 v4, A = some a ∧ W.cell? (a.add (i * 5)) = some v0 ∧ W.cell? ⟨(a.add (i * 5)).block, (a.add (i * 5)).off + 1, none⟩ = some v1 ∧ W.cell? ⟨(a.add (i * 5)).block, (a.add (i * 5)).off + 2, none⟩ = some v2 ∧
  W.cell? ⟨(a.add (i * 5)).block, (a.add (i * 5)).off + 3, none⟩ = some v3 ∧ W.cell? ⟨(a.add (i * 5)).block, (a.add (i * 5)).off + 4, none⟩ = some v4
theorem Cells5.kc {W W' : World} {A : Option Addr} {m : Nat} (h : Cells5 W A m) (hk : KeepC (fun _ => True) W W') : Cells5 W' A m := fun i hi => by
  obtain ⟨a, v0, v1, v2, v3, v4, e, h0, h1, h2, h3, h4⟩ := h i hi
  exact ⟨a, v0, v1, v2, v3, v4, e, hk.cell trivial h0, hk.cell trivial h1, hk.cell trivial h2, hk.cell trivial h3, hk.cell trivial h4⟩
end Tg
end Go.Proofs.YtfnhjflocfmcoaaGreat

set_option maxRecDepth 100000
namespace Go.Proofs.YtfnhjflocfmcoaaGreat
namespace Bm
open Tx Sq Hk Tr Pr Fl Pn
set_option linter.unusedVariables false

/-- A change's tag: the patch's id, and its own number. -/
abbrev Tag : Type := Id_ × Nat
/-- A birth: of a change, and which of its lines. -/
abbrev Bi : Type := Tag × Nat
/-- Births by names. -/
abbrev OR : Type := List (List UInt8 × List Bi)
abbrev Tc : Type := Tag × Ch
def births (a : Tag) (n : Nat) : List Bi := (List.range n).map fun k => (a, k)
theorem births_len (a : Tag) (n : Nat) : (births a n).length = n := by simp [births]
/-- What a file's births become by a change of lines. -/
def born (a : Tag) (p : Ch) (m : List Bi) : List Bi := swp m p.h.pos.toNat p.h.old.length (births a p.h.new.length)
/-- What births become by a change that can be done. -/
def oneB (o : OR) (a : Tag) (p : Ch) : OR :=
  if p.k = 0 then put lt o p.nm [] else if p.k = 1 then del o p.nm else if p.k = 2 then put lt (del o p.nm) p.to ((get o p.nm).getD []) else put lt o p.nm (born a p ((get o p.nm).getD []))
/-- Does a change name a file? -/
def touch (p : Ch) (n : List UInt8) : Prop := p.nm = n ∨ (p.k = 2 ∧ p.to = n)
instance (p : Ch) (n : List UInt8) : Decidable (touch p n) := by unfold touch; infer_instance
/-- What a file that is named has then, where the change's own file had m. -/
def val (a : Tag) (p : Ch) (m : Option (List Bi)) (n : List UInt8) : Option (List Bi) :=
  if p.k = 0 then some [] else if p.k = 1 then none else if p.k = 2 then (if p.to = n then some (m.getD []) else none) else some (born a p (m.getD []))
theorem oneB_up {o : OR} {a : Tag} {p : Ch} (ho : Up lt o) : Up lt (oneB o a p) := by
  unfold oneB
  split
  · exact up_put lin ho _ _
  · split
    · exact up_del ho _
    · split
      · exact up_put lin (up_del ho _) _ _
      · exact up_put lin ho _ _
theorem oneB_get {o : OR} {a : Tag} {p : Ch} (ho : Up lt o) (n : List UInt8) : get (oneB o a p) n = if touch p n then val a p (get o p.nm) n else get o n := by
  unfold oneB val
  by_cases h0 : p.k = 0
  · rw [if_pos h0, if_pos h0, get_put]
    by_cases hn : p.nm = n
    · rw [if_pos hn, if_pos (show touch p n from .inl hn)]
    · rw [if_neg hn, if_neg (show ¬ touch p n from fun h => by rcases h with h | h; exact hn h; omega)]
  · rw [if_neg h0, if_neg h0]
    by_cases h1 : p.k = 1
    · rw [if_pos h1, if_pos h1, get_del lin ho]
      by_cases hn : p.nm = n
      · rw [if_pos hn, if_pos (show touch p n from .inl hn)]
      · rw [if_neg hn, if_neg (show ¬ touch p n from fun h => by rcases h with h | h; exact hn h; omega)]
    · rw [if_neg h1, if_neg h1]
      by_cases h2 : p.k = 2
      · rw [if_pos h2, if_pos h2, get_put, get_del lin ho]
        by_cases ht : p.to = n
        · rw [if_pos ht, if_pos (show touch p n from .inr ⟨h2, ht⟩), if_pos ht]
        · rw [if_neg ht, if_neg ht]
          by_cases hn : p.nm = n
          · rw [if_pos hn, if_pos (show touch p n from .inl hn)]
          · rw [if_neg hn, if_neg (show ¬ touch p n from fun h => by rcases h with h | h; exact hn h; exact ht h.2)]
      · rw [if_neg h2, if_neg h2, get_put]
        by_cases hn : p.nm = n
        · rw [if_pos hn, if_pos (show touch p n from .inl hn)]
        · rw [if_neg hn, if_neg (show ¬ touch p n from fun h => by rcases h with h | h; exact hn h; exact h2 h.1)]

/-- As many births as lines, file by file. -/
structure Like (t : TR) (o : OR) : Prop where
  ut : Up lt t
  uo : Up lt o
  len : ∀ n, (get o n).map List.length = (get t n).map List.length
theorem like_none {t : TR} {o : OR} {n : List UInt8} (h : Like t o) (hg : get t n = none) : get o n = none := by
  have := h.len n
  rw [hg] at this
  simpa using this
theorem like_some {t : TR} {o : OR} {n : List UInt8} {l : List (List UInt8)} (h : Like t o) (hg : get t n = some l) : ∃ m, get o n = some m ∧ m.length = l.length := by
  have := h.len n
  rw [hg] at this
  cases hm : get o n with
  | none => rw [hm] at this; cases this
  | some m => rw [hm] at this; exact ⟨m, rfl, by simpa using this⟩
theorem swp_len {α : Type} {l now : List α} {i n : Nat} (h : i + n ≤ l.length) : (swp l i n now).length = l.length - n + now.length := by
  unfold swp
  simp only [List.length_append, List.length_take, List.length_drop]
  omega
/-- Where a change of lines can be done its lines lie within the file's. -/
theorem line_in {l : List (List UInt8)} {p : Ch} (hm : mayP p = true) (hk : p.k = 3 ∨ p.k = 4) (he : lineE l p = 0) : 0 ≤ p.h.pos ∧ p.h.pos.toNat + p.h.old.length ≤ l.length ∧ (lineL l p).length = l.length - p.h.old.length + p.h.new.length := by
  obtain ⟨_, _, hh, h4⟩ := may_h hm hk
  unfold lineE lineL at *
  rcases hk with hk | hk
  · rw [if_pos hk] at he ⊢
    have hd := apply_done he
    have h1 := has_len (done_some hd).1
    refine ⟨h1.1, h1.2, ?_⟩
    rw [(done_some hd).2, swp_len h1.2]
  · have h3 : ¬ p.k = 3 := by omega
    rw [if_neg h3] at he ⊢
    have e : l = p.h.old := by
      by_cases e : l = p.h.old
      · exact e
      · rw [if_neg e] at he; exact absurd he (by decide)
    rw [h4 hk, e]
    exact ⟨by omega, by simp, by omega⟩
theorem like_do {t u : TR} {o : OR} {a : Tag} {p : Ch} (h : Like t o) (hd : doP t p = (0, u)) : Like u (oneB o a p) := by
  refine ⟨doP_up h.ut hd, oneB_up h.uo, fun n => ?_⟩
  rw [oneB_get h.uo]
  obtain ⟨hm, hc⟩ := doP_cases hd
  unfold val
  rcases hc with ⟨hk, hg, rfl⟩ | ⟨hk, hg, rfl⟩ | ⟨hk, l, hg, ht, rfl⟩ | ⟨hk, l, hg, he, rfl⟩
  · rw [get_put]
    by_cases hn : p.nm = n
    · rw [if_pos hn, if_pos (show touch p n from .inl hn), if_pos hk]; rfl
    · rw [if_neg hn, if_neg (show ¬ touch p n from fun h => by rcases h with h | h; exact hn h; omega)]; exact h.len n
  · rw [get_del lin h.ut]
    by_cases hn : p.nm = n
    · rw [if_pos hn, if_pos (show touch p n from .inl hn), if_neg (by omega), if_pos hk]; rfl
    · rw [if_neg hn, if_neg (show ¬ touch p n from fun h => by rcases h with h | h; exact hn h; omega)]; exact h.len n
  · obtain ⟨m, hmo, hml⟩ := like_some h hg
    rw [get_put, get_del lin h.ut]
    by_cases hto : p.to = n
    · rw [if_pos hto, if_pos (show touch p n from .inr ⟨hk, hto⟩), if_neg (by omega), if_neg (by omega), if_pos hk, if_pos hto, hmo]
      simp [hml]
    · rw [if_neg hto]
      by_cases hn : p.nm = n
      · rw [if_pos hn, if_pos (show touch p n from .inl hn), if_neg (by omega), if_neg (by omega), if_pos hk, if_neg hto]; rfl
      · rw [if_neg hn, if_neg (show ¬ touch p n from fun h => by rcases h with h | h; exact hn h; exact hto h.2), if_neg hto]; exact h.len n
  · obtain ⟨m, hmo, hml⟩ := like_some h hg
    obtain ⟨_, h2, h3⟩ := line_in hm hk he
    rw [get_put]
    by_cases hn : p.nm = n
    · rw [if_pos hn, if_pos (show touch p n from .inl hn), if_neg (by omega), if_neg (by omega), if_neg (by omega), hmo]
      simp only [Option.getD_some, Option.map_some]
      unfold born
      rw [swp_len (by omega), births_len, h3, hml]
    · rw [if_neg hn, if_neg (show ¬ touch p n from fun h => by rcases h with h | h; exact hn h; omega)]; exact h.len n

/-- What trees, and births, become by a tagged change. -/
def dB (s : TR × OR) (c : Tc) : Option (TR × OR) := if (doP s.1 c.2).1 = 0 then some ((doP s.1 c.2).2, oneB s.2 c.1 c.2) else none
theorem dB_some {s : TR × OR} {c : Tc} {u : TR} {o : OR} : dB s c = some (u, o) ↔ doP s.1 c.2 = (0, u) ∧ o = oneB s.2 c.1 c.2 := by
  unfold dB
  constructor
  · intro h
    split at h
    · rename_i h0
      injection h with h
      injection h with h1 h2
      exact ⟨Prod.ext h0 h1, h2.symm⟩
    · cases h
  · rintro ⟨h1, rfl⟩
    rw [h1, if_pos rfl]
def LikeS (s : TR × OR) : Prop := Like s.1 s.2
theorem dB_like {s s' : TR × OR} {c : Tc} (h : LikeS s) (hd : dB s c = some s') : LikeS s' := by
  obtain ⟨h1, h2⟩ := dB_some.1 (show dB s c = some (s'.1, s'.2) from hd)
  unfold LikeS
  rw [h2]
  exact like_do h h1
def tagL (i : Id_) : Nat → List Ch → List Tc
  | _, [] => []
  | k, p :: l => ((i, k), p) :: tagL i (k + 1) l
theorem tagL_snd (i : Id_) : ∀ (l : List Ch) (k : Nat), (tagL i k l).map (·.2) = l
  | [], _ => rfl
  | p :: l, k => by rw [tagL, List.map_cons, tagL_snd i l (k + 1)]
abbrev tagN (p : Nm) : List Tc := tagL p.id 0 p.l
def tagA (l : List Nm) : List Tc := l.flatMap tagN
theorem tagA_app (a b : List Nm) : tagA (a ++ b) = tagA a ++ tagA b := List.flatMap_append
theorem tagA_cons (p : Nm) (l : List Nm) : tagA (p :: l) = tagN p ++ tagA l := List.flatMap_cons
theorem tagA_snd : ∀ (l : List Nm), (tagA l).map (·.2) = allN l
  | [] => rfl
  | p :: l => by rw [tagA_cons, List.map_append, tagA_snd l, tagL_snd, allN_cons]
/-- What all become by patches. -/
abbrev orgN (s : TR × OR) (l : List Nm) : Option (TR × OR) := doL dB s (tagA l)
theorem doB_tree : ∀ {T : List Tc} {s u : TR × OR}, doL dB s T = some u → doL dP s.1 (T.map (·.2)) = some u.1
  | [], s, u, h => by injection h with h; rw [← h]; rfl
  | c :: T, s, u, h => by
    obtain ⟨v, h1, h2⟩ := doL_cons_inv dB h
    obtain ⟨g1, _⟩ := dB_some.1 (show dB s c = some (v.1, v.2) from h1)
    rw [List.map_cons, doL_cons dP (show dP s.1 c.2 = some v.1 by unfold dP; rw [g1]; rfl)]
    exact doB_tree h2
theorem doB_of : ∀ {T : List Tc} {s : TR × OR} {u : TR}, doL dP s.1 (T.map (·.2)) = some u → ∃ o, doL dB s T = some (u, o)
  | [], s, u, h => by injection h with h; exact ⟨s.2, by rw [← h]; rfl⟩
  | c :: T, s, u, h => by
    obtain ⟨v, h1, h2⟩ := doL_cons_inv dP h
    have g1 : doP s.1 c.2 = (0, v) := by
      unfold dP at h1
      by_cases h0 : (doP s.1 c.2).1 = 0
      · rw [if_pos h0] at h1
        injection h1 with h1
        exact Prod.ext h0 h1
      · rw [if_neg h0] at h1; cases h1
    have h3 : dB s c = some (v, oneB s.2 c.1 c.2) := dB_some.2 ⟨g1, rfl⟩
    obtain ⟨o, h4⟩ := doB_of (s := (v, oneB s.2 c.1 c.2)) h2
    exact ⟨o, by rw [doL_cons dB h3]; exact h4⟩
theorem org_tree {s u : TR × OR} {l : List Nm} (h : orgN s l = some u) : doN s.1 l = (0, u.1) := by
  have := doB_tree h
  rw [tagA_snd] at this
  exact doF_some.1 this
theorem org_of {s : TR × OR} {u : TR} {l : List Nm} (h : doN s.1 l = (0, u)) : ∃ o, orgN s l = some (u, o) := by
  refine doB_of ?_
  rw [tagA_snd]
  exact doF_some.2 h
theorem doB_like {T : List Tc} {s u : TR × OR} (hs : LikeS s) (h : doL dB s T = some u) : LikeS u := doL_inv dB LikeS (fun hi hd => dB_like hi hd) hs h
theorem like_nil : LikeS ([], []) := ⟨List.Pairwise.nil, List.Pairwise.nil, fun n => rfl⟩
/-- A tree, and the births of its files, stand side by side. -/
theorem get_map {α β : Type} (g : α → β) (n : List UInt8) : ∀ t : List (List UInt8 × α), get (t.map fun f => (f.1, g f.2)) n = (get t n).map g
  | [] => rfl
  | f :: t => by
    have ih := get_map g n t
    rw [List.map_cons, get_cons, get_cons]
    dsimp only
    split
    · rfl
    · exact ih
theorem up_map {α β : Type} (g : α → β) {t : List (List UInt8 × α)} (h : Up lt t) : Up lt (t.map fun f => (f.1, g f.2)) := by
  unfold Up at h ⊢
  rw [List.pairwise_map]
  exact h
theorem like_rows {t : TR} {o : OR} (h : Like t o) : (o.map fun f => (f.1, f.2.length)) = t.map fun f => (f.1, f.2.length) :=
  up_ext lin (up_map List.length h.uo) (up_map List.length h.ut) fun n => by
    rw [get_map List.length, get_map List.length]
    exact h.len n
theorem like_at {t : TR} {o : OR} (h : Like t o) : o.length = t.length ∧ ∀ (i : Nat) f, t[i]? = some f → ∃ g, o[i]? = some g ∧ g.1 = f.1 ∧ g.2.length = f.2.length ∧ get t f.1 = some f.2 ∧ get o f.1 = some g.2 := by
  have e := like_rows h
  refine ⟨by have := congrArg List.length e; simpa using this, fun i f hf => ?_⟩
  have e1 : (o.map fun f => (f.1, f.2.length))[i]? = (t.map fun f => (f.1, f.2.length))[i]? := by rw [e]
  rw [List.getElem?_map, List.getElem?_map, hf] at e1
  cases hg : o[i]? with
  | none => rw [hg] at e1; cases e1
  | some g =>
    rw [hg] at e1
    injection e1 with e1
    injection e1 with e2 e3
    refine ⟨g, rfl, e2, e3, get_of_mem lin h.ut (List.mem_of_getElem? hf), ?_⟩
    rw [← e2]
    exact get_of_mem lin h.uo (List.mem_of_getElem? hg)
end Bm
end Go.Proofs.YtfnhjflocfmcoaaGreat

set_option maxRecDepth 100000
namespace Go.Proofs.YtfnhjflocfmcoaaGreat
open Go.ChangeShapes Go.WideShapes Go.ChangeAt Go.RowKit
set_option linter.unusedVariables false
namespace Bm
open Tx Df Sq Hk Tr Pr Fl Pn Tg

/-- The cells of births. -/
abbrev biC (x : Bi) : List Value := [.int .i64 x.1.1.1, .int .i64 x.1.1.2, .int .i64 (x.1.2 : Int), .int .i64 (x.2 : Int)]
/-- The value of a birth. -/
abbrev biV (x : Bi) : Value := .agg #[.int .i64 x.1.1.1, .int .i64 x.1.1.2, .int .i64 (x.1.2 : Int), .int .i64 (x.2 : Int)]
def bisV (l : List Bi) : List Value := l.flatMap biC
theorem bisV_cons (x : Bi) (l : List Bi) : bisV (x :: l) = .int .i64 x.1.1.1 :: .int .i64 x.1.1.2 :: .int .i64 (x.1.2 : Int) :: .int .i64 (x.2 : Int) :: bisV l := List.flatMap_cons
theorem bisV_app (l u : List Bi) : bisV (l ++ u) = bisV l ++ bisV u := List.flatMap_append
theorem bisV_len : ∀ (l : List Bi), (bisV l).length = l.length * 4
  | [] => rfl
  | x :: l => by rw [bisV_cons]; simp only [List.length_cons]; rw [bisV_len l]; omega
theorem bisV_at : ∀ {l : List Bi} {k : Nat} {x : Bi}, l[k]? = some x → (bisV l)[k * 4]? = some (.int .i64 x.1.1.1) ∧ (bisV l)[k * 4 + 1]? = some (.int .i64 x.1.1.2) ∧ (bisV l)[k * 4 + 2]? = some (.int .i64 (x.1.2 : Int)) ∧ (bisV l)[k * 4 + 3]? = some (.int .i64 (x.2 : Int))
  | [], k, x, h => by simp at h
  | y :: l, 0, x, h => by
    injection h with h
    subst h
    rw [bisV_cons]
    exact ⟨rfl, rfl, rfl, rfl⟩
  | y :: l, k + 1, x, h => by
    rw [bisV_cons, show (k + 1) * 4 = k * 4 + 1 + 1 + 1 + 1 by omega]
    exact bisV_at (l := l) (by simpa using h)
theorem bisV_one : ∀ (l : List Bi), ∀ u ∈ bisV l, u.oneCell' = true
  | [], u, h => by cases h
  | x :: l, u, h => by
    rw [bisV_cons] at h
    simp only [List.mem_cons] at h
    rcases h with rfl | rfl | rfl | rfl | h
    · rfl
    · rfl
    · rfl
    · rfl
    · exact bisV_one l u h
theorem bisV_drop : ∀ (l : List Bi) (n : Nat), (bisV l).drop (n * 4) = bisV (l.drop n)
  | [], n => by simp [bisV]
  | x :: l, 0 => rfl
  | x :: l, n + 1 => by
    rw [bisV_cons, show (n + 1) * 4 = n * 4 + 1 + 1 + 1 + 1 by omega, List.drop_succ_cons, List.drop_succ_cons, List.drop_succ_cons, List.drop_succ_cons, List.drop_succ_cons]
    exact bisV_drop l n
theorem bisV_take : ∀ (l : List Bi) (n : Nat), (bisV l).take (n * 4) = bisV (l.take n)
  | [], n => by simp [bisV]
  | x :: l, 0 => by rw [Nat.zero_mul, List.take_zero, List.take_zero]; rfl
  | x :: l, n + 1 => by
    rw [bisV_cons, show (n + 1) * 4 = n * 4 + 1 + 1 + 1 + 1 by omega, List.take_succ_cons, List.take_succ_cons, List.take_succ_cons, List.take_succ_cons, List.take_succ_cons, bisV_cons, bisV_take l n]
/-- The address A leads, in a block that S names, to births; or there are none. -/
abbrev RdB (w : World) (S : Nat → Prop) (A : Option Addr) (l : List Bi) : Prop := RdG w S A (bisV l)
section
variable {W W' : World} {S T : Nat → Prop} {A : Option Addr} {l u : List Bi}
theorem RdB.elem (h : RdB W S A l) {k : Nat} {x : Bi} (hx : l[k]? = some x) :
    ∃ a, A = some a ∧ S a.block ∧ W.cell? (a.add (k * 4)) = some (.int .i64 x.1.1.1) ∧ W.cell? ⟨(a.add (k * 4)).block, (a.add (k * 4)).off + 1, none⟩ = some (.int .i64 x.1.1.2) ∧ W.cell? ⟨(a.add (k * 4)).block, (a.add (k * 4)).off + 2, none⟩ = some (.int .i64 (x.1.2 : Int)) ∧ W.cell? ⟨(a.add (k * 4)).block, (a.add (k * 4)).off + 3, none⟩ = some (.int .i64 (x.2 : Int)) := by
  obtain ⟨h1, h2, h3, h4⟩ := bisV_at hx
  rcases h with h | ⟨a, e, hlt, hc⟩
  · rw [h] at h1; simp at h1
  · exact ⟨a, e, hlt, hc _ _ h1, by rw [add_off _ _ _ (by decide)]; exact hc _ _ h2, by rw [add_off _ _ _ (by decide)]; exact hc _ _ h3, by rw [add_off _ _ _ (by decide)]; exact hc _ _ h4⟩
theorem RdB.drop (h : RdB W S A l) (k : Nat) : RdB W S (A.map (·.add (k * 4))) (l.drop k) := by
  show RdG W S _ (bisV (l.drop k))
  rw [← bisV_drop]
  rcases h with h | ⟨a, rfl, hlt, hc⟩
  · exact .inl (by rw [h]; simp)
  · refine .inr ⟨a.add (k * 4), rfl, by rw [add_block]; exact hlt, fun j u hu => ?_⟩
    rw [add_add]
    exact hc _ u (by rw [← hu, List.getElem?_drop])
theorem RdB.take (h : RdB W S A l) (k : Nat) : RdB W S A (l.take k) := by
  show RdG W S _ (bisV (l.take k))
  rw [← bisV_take]
  rcases h with h | ⟨a, rfl, hlt, hc⟩
  · exact .inl (by rw [h]; simp)
  · refine .inr ⟨a, rfl, hlt, fun j u hu => hc j u ?_⟩
    by_cases hj : j < k * 4
    · rw [List.getElem?_take_of_lt hj] at hu; exact hu
    · rw [List.getElem?_take_eq_none (by omega)] at hu; cases hu
end
theorem info_birth : (Tryz.prog.info? 33).map (fun i => (i.zero, i.size, i.bytes)) = some (some (.agg #[.int .i64 0, .int .i64 0, .int .i64 0, .int .i64 0]), 4, 32) := by kernel_rfl
theorem info_origin : (Tryz.prog.info? 48).map (fun i => (i.zero, i.size, i.bytes)) = some (some (.agg #[.string ⟨#[]⟩, .slice none 0 0]), 2, 40) := by kernel_rfl

/-- Births in a row of one's own. -/
abbrev OwnB (W : World) (base : Nat) (v : Value) (l : List Bi) : Prop := W.ownsRow base 33 4 v l.length (bisV l)
section
variable {W W' : World} {base : Nat} {v : Value} {l u : List Bi}
theorem ownB_nil (W : World) (base : Nat) : OwnB W base (.slice none 0 0) [] := World.ownsRow_nil _ _ _ _
theorem ownB_ge (h : OwnB W base v l) : ∀ k, v.ownBlock = some k → base ≤ k := fun k hk => own_ge h k hk
theorem rdB_own (h : OwnB W base v l) : ∃ A c, v = .slice A l.length c ∧ l.length ≤ c ∧ RdB W (fun b => base ≤ b ∧ b < W.heap.size) A l := by
  rcases h.2 with ⟨rfl, h0⟩ | ⟨g, cap, cur, rfl, hbg, hg, hc, _⟩
  · have : l = [] := List.eq_nil_of_length_eq_zero h0
    subst this
    exact ⟨none, 0, rfl, Nat.le_refl _, .inl rfl⟩
  · refine ⟨_, cap, rfl, hc, .inr ⟨_, rfl, ⟨hbg, (Array.getElem?_eq_some_iff.1 hg).1⟩, fun j u hu => ?_⟩⟩
    have ea : (⟨g, 0, none⟩ : Addr).add j = ⟨g, j, none⟩ := by unfold Addr.add; split <;> simp_all
    have hj : j < (bisV l).length := (List.getElem?_eq_some_iff.1 hu).1
    rw [bisV_len] at hj
    rw [ea, h.cellAt j (by omega)]
    exact hu
theorem run_ownB {S : Nat → Prop} {ty : TypeId} {m c : Nat} {A : Option Addr} (h : OwnB W base v l) (hu : RdB W S A u) (hm : u.length = m) (hn : l.length + m ≤ 100000) (hbase : base ≤ W.heap.size) :
    ∃ v' W', (Builtin.append_ #[46, 46] ty #[v, .slice A m c]).run Tryz.prog W = .ok v' W' ∧ OwnB W' base v' (l ++ u) ∧ W.grownBy W' v.ownBlock := by
  obtain ⟨i0, hi0, hz0, hz1, hz2⟩ := info_parts info_birth
  by_cases hm0 : m = 0
  · have hu0 : u = [] := List.eq_nil_of_length_eq_zero (by omega)
    subst hu0
    obtain ⟨A0, c0, rfl, hc0, _⟩ := rdB_own h
    subst hm0
    exact ⟨_, W, run_append_none Tryz.underlying46 hi0 hc0, by rw [List.append_nil]; exact h, ⟨rfl, rfl, rfl, Nat.le_refl _, fun _ _ _ => rfl⟩⟩
  · have hy := bisV_len u
    obtain ⟨a, rfl, hcell⟩ : ∃ a, A = some a ∧ ∀ (j : Nat) x, (bisV u)[j]? = some x → W.cell? (a.add j) = some x := by
      rcases hu with hy' | ⟨a, e, _, h⟩
      · rw [hy'] at hy; simp at hy; omega
      · exact ⟨a, e, h⟩
    obtain ⟨g, cap, W', hr, r1, r2, r3, r4⟩ := run_append_lies (P := Tryz.prog) (w := W) 46 ty base 33 i0 _ 4 32 Tryz.underlying46 hi0 hz0 hz1 hz2 rfl (by decide) v l.length (bisV l) h a m c (bisV u) (by rw [hy, hm]) hcell (bisV_one u) (by omega) (by unfold maxLen; omega) (by omega) hbase W.heap.size rfl
    refine ⟨_, W', hr, ?_, r2⟩
    show W'.ownsRow _ _ _ _ (l ++ u).length (bisV (l ++ u))
    rw [List.length_append, hm, bisV_app]
    exact r1
theorem wpList_ownB {ops : Array Oper} {rest : List Oper} {o : Oper} {a : Act} {Q : Exit → Act → World → Prop} (hgd : o.guard = none) (s x : Operand)
    (ho : o.op = .call { callee := .builtin .append, args := #[s, x], argTypes := #[46, 46] })
    (S : Nat → Prop) (base m c : Nat) (v : Value) (A : Option Addr) (l u : List Bi) (hs : a.eval s = v) (hx : a.eval x = .slice A m c) (h : OwnB W base v l) (hu : RdB W S A u)
    (hm : u.length = m) (hn : l.length + m ≤ 100000) (hbase : base ≤ W.heap.size)
    (hK : ∀ v' W', OwnB W' base v' (l ++ u) → W.grownBy W' v.ownBlock → wpList Tryz.prog ops Q rest (a.put o.dst v') W') : wpList Tryz.prog ops Q (o :: rest) a W := by
  refine wpList_plain hgd fun K hK' => ?_
  obtain ⟨v', W', hrun, h2, h3⟩ := run_ownB (ty := o.type) (c := c) h hu hm hn hbase
  unfold Oper.wp execOp
  simp only [ho, resolve, invoke, builtin, Sem.run_bind, Sem.run_pure, Result.andThen_ok, List.map_toArray, List.map_cons, List.map_nil, hs, hx, hrun]
  exact hK' _ _ (hK v' W' h2 h3)
end
/-- One birth in a block of its own is read as a list. -/
theorem rdB_lone {W : World} {S : Nat → Prop} {b : Nat} {x : Bi} (h : Blk W b 33 #[.int .i64 x.1.1.1, .int .i64 x.1.1.2, .int .i64 (x.1.2 : Int), .int .i64 (x.2 : Int)]) (hb : S b) : RdB W S (some ⟨b, 0, none⟩) [x] :=
  .inr ⟨_, rfl, hb, fun j u hu => by
    rcases j with _ | _ | _ | _ | j
    · rw [add_zero']; exact h.cell 0 hu
    · exact h.cell 1 hu
    · exact h.cell 2 hu
    · exact h.cell 3 hu
    · simp [bisV] at hu⟩

/-- The cells of origins, as far as they go; their births lie in blocks that S names. -/
def OCells (W : World) (S : Nat → Prop) (o : OR) (xs : List Value) : Prop :=
  ∀ (k : Nat) x, o[k]? = some x → ∃ A c, xs[k * 2]? = some (strV x.1) ∧ xs[k * 2 + 1]? = some (.slice A x.2.length c) ∧ x.2.length ≤ c ∧ RdB W S A x.2
section
variable {W W' : World} {S T : Nat → Prop} {base : Nat} {v : Value} {o u : OR} {xs ys : List Value}
theorem OCells.mono (h : OCells W S o xs) (hs : ∀ b, S b → T b) : OCells W T o xs := fun k x hx => by
  obtain ⟨A, c, h0, h1, h2, h3⟩ := h k x hx
  exact ⟨A, c, h0, h1, h2, h3.mono hs⟩
theorem OCells.to (h : OCells W S o xs) (ha : Fl.Alike S W W') : OCells W' S o xs := fun k x hx => by
  obtain ⟨A, c, h0, h1, h2, h3⟩ := h k x hx
  exact ⟨A, c, h0, h1, h2, h3.to ha⟩
theorem OCells.nil (W : World) (S : Nat → Prop) (xs : List Value) : OCells W S [] xs := fun k x hx => by simp at hx
theorem OCells.one {A : Option Addr} {n c : Nat} {x : List UInt8 × List Bi} (hn : x.2.length = n) (hc : n ≤ c) (h : RdB W S A x.2) : OCells W S [x] [strV x.1, .slice A n c] := fun k y hy => by
  cases k with
  | zero => injection hy with hy; subst hy; subst hn; exact ⟨A, c, rfl, rfl, hc, h⟩
  | succ k => simp at hy
theorem OCells.append (h : OCells W S o xs) (hl : xs.length = o.length * 2) (h' : OCells W S u ys) : OCells W S (o ++ u) (xs ++ ys) := fun k x hx => by
  by_cases hk : k < o.length
  · rw [List.getElem?_append_left hk] at hx
    obtain ⟨A, c, h0, h1, h2, h3⟩ := h k x hx
    exact ⟨A, c, by rw [List.getElem?_append_left (by omega)]; exact h0, by rw [List.getElem?_append_left (by omega)]; exact h1, h2, h3⟩
  · rw [List.getElem?_append_right (by omega)] at hx
    obtain ⟨A, c, h0, h1, h2, h3⟩ := h' _ x hx
    refine ⟨A, c, ?_, ?_, h2, h3⟩
    · rw [List.getElem?_append_right (by omega), show k * 2 - xs.length = (k - o.length) * 2 by omega]; exact h0
    · rw [List.getElem?_append_right (by omega), show k * 2 + 1 - xs.length = (k - o.length) * 2 + 1 by omega]; exact h1
theorem OCells.cells1 (h : OCells W S o xs) (hl : xs.length = o.length * 2) : ∀ u ∈ xs, u.oneCell' = true := fun u hu => by
  obtain ⟨j, hj⟩ := List.getElem?_of_mem hu
  have hlt := (List.getElem?_eq_some_iff.1 hj).1
  have hk : j / 2 < o.length := by omega
  obtain ⟨A, c, h0, h1, _, _⟩ := h (j / 2) _ (List.getElem?_eq_getElem hk)
  rcases Nat.mod_two_eq_zero_or_one j with e | e
  · rw [show j / 2 * 2 = j by omega, hj] at h0
    injection h0 with h0
    rw [h0]; rfl
  · rw [show j / 2 * 2 + 1 = j by omega, hj] at h1
    injection h1 with h1
    rw [h1]; rfl

/-- Origins in a row of one's own; their births lie in blocks that S names. -/
def OwnO (W : World) (S : Nat → Prop) (base : Nat) (v : Value) (o : OR) : Prop := ∃ xs, W.ownsRow base 48 2 v o.length xs ∧ OCells W S o xs
theorem ownO_nil (W : World) (S : Nat → Prop) (base : Nat) : OwnO W S base (.slice none 0 0) [] := ⟨[], World.ownsRow_nil _ _ _ _, OCells.nil _ _ _⟩
theorem OwnO.mono (h : OwnO W S base v o) (hs : ∀ b, S b → T b) : OwnO W T base v o := by
  obtain ⟨xs, h1, h2⟩ := h
  exact ⟨xs, h1, h2.mono hs⟩
theorem OwnO.below (h : OwnO W S base v o) (hb : Below W.heap.size W W') : OwnO W' S base v o := by
  obtain ⟨xs, h1, h2⟩ := h
  exact ⟨xs, own_gr h1 (below_gr_row hb), h2.to (fun b _ hl => hb.block b hl)⟩
theorem ownO_ge (h : OwnO W S base v o) : ∀ g, v.ownBlock = some g → base ≤ g := fun g hg => h.elim fun xs h => own_ge h.1 g hg
theorem ownO_slice (h : OwnO W S base v o) : ∃ A c, v = .slice A o.length c ∧ o.length ≤ c := by
  obtain ⟨xs, hr, hF⟩ := h
  rcases hr.2 with ⟨rfl, h1⟩ | ⟨g, cap, cur, rfl, hbg, hg, hc, _⟩
  · exact ⟨none, 0, by rw [h1], by rw [h1]; exact Nat.le_refl _⟩
  · exact ⟨_, cap, rfl, hc⟩
end

/-- The cells of an origin at the address a; its births in a block that S names. -/
structure OAt (w : World) (S : Nat → Prop) (a : Addr) (k : Nat) (x : List UInt8 × List Bi) : Prop where
  c0 : w.cell? (a.add (k * 2)) = some (strV x.1)
  c1 : ∃ A c, w.cell? ⟨(a.add (k * 2)).block, (a.add (k * 2)).off + 1, none⟩ = some (.slice A x.2.length c) ∧ x.2.length ≤ c ∧ RdB w S A x.2
/-- The address A leads, in a block that S names, to origins; or there are none. -/
def RdO (w : World) (S : Nat → Prop) (A : Option Addr) (o : OR) : Prop := o = [] ∨ ∃ a, A = some a ∧ S a.block ∧ ∀ (k : Nat) x, o[k]? = some x → OAt w S a k x
section
variable {W W' : World} {S T : Nat → Prop} {base : Nat} {A : Option Addr} {v : Value} {o u : OR}
theorem RdO.mono (h : RdO W S A o) (hs : ∀ b, S b → T b) : RdO W T A o := h.imp id fun ⟨a, e, h1, h2⟩ => ⟨a, e, hs _ h1, fun k x hx => by
  obtain ⟨c0, B, c, c1, c2, c3⟩ := h2 k x hx
  exact ⟨c0, B, c, c1, c2, c3.mono hs⟩⟩
theorem RdO.to (h : RdO W S A o) (ha : Fl.Alike S W W') : RdO W' S A o := h.imp id fun ⟨a, e, h1, h2⟩ => ⟨a, e, h1, fun k x hx => by
  obtain ⟨c0, B, c, c1, c2, c3⟩ := h2 k x hx
  have hk : S (a.add (k * 2)).block := by rw [add_block]; exact h1
  exact ⟨Fl.cell_to ha hk c0, B, c, Fl.cell_to ha hk c1, c2, c3.to ha⟩⟩
theorem RdO.mv (h : RdO W (· < W.heap.size) A o) (hb : Below W.heap.size W W') : RdO W' (· < W'.heap.size) A o := (h.to (fun b _ hl => hb.block b hl)).mono fun b h => Nat.lt_of_lt_of_le h hb.size
theorem RdO.elem (h : RdO W S A o) {k : Nat} {x : List UInt8 × List Bi} (hx : o[k]? = some x) : ∃ a, A = some a ∧ S a.block ∧ OAt W S a k x := by
  rcases h with rfl | ⟨a, e, h1, h2⟩
  · simp at hx
  · exact ⟨a, e, h1, h2 k x hx⟩
/-- A row of origins of one's own is read as origins. -/
theorem rdO_own (h : OwnO W S base v o) : ∃ A c, v = .slice A o.length c ∧ o.length ≤ c ∧ RdO W (fun b => S b ∨ (base ≤ b ∧ b < W.heap.size)) A o := by
  obtain ⟨xs, hr, hF⟩ := h
  rcases hr.2 with ⟨rfl, h0⟩ | ⟨g, cap, cur, rfl, hbg, hg, hc, _⟩
  · have : o = [] := List.eq_nil_of_length_eq_zero h0
    subst this
    exact ⟨none, 0, rfl, Nat.le_refl _, .inl rfl⟩
  · refine ⟨_, cap, rfl, hc, .inr ⟨_, rfl, .inr ⟨hbg, (Array.getElem?_eq_some_iff.1 hg).1⟩, fun k x hx => ?_⟩⟩
    obtain ⟨A, c, g1, g2, g3, g4⟩ := hF k x hx
    have hk : k < o.length := (List.getElem?_eq_some_iff.1 hx).1
    have ea : (⟨g, 0, none⟩ : Addr).add (k * 2) = ⟨g, k * 2, none⟩ := by unfold Addr.add; split <;> simp_all
    refine ⟨?_, A, c, ?_, g3, g4.mono fun b hb => .inl hb⟩
    · rw [ea, hr.cellAt (k * 2) (by omega)]; exact g1
    · rw [ea]; show W.cell? ⟨g, k * 2 + 1, none⟩ = _; rw [hr.cellAt (k * 2 + 1) (by omega)]; exact g2

/-- Origins that can be appended: their cells, and where these lie. -/
def SrcO (W : World) (S : Nat → Prop) (A : Option Addr) (u : OR) : Prop :=
  ∃ ys : List Value, ys.length = u.length * 2 ∧ OCells W S u ys ∧ (ys = [] ∨ ∃ a, A = some a ∧ ∀ (j : Nat) x, ys[j]? = some x → W.cell? (a.add j) = some x)
theorem oneO_src {b n c : Nat} {B : Option Addr} {x : List UInt8 × List Bi} (h : Blk W b 48 #[strV x.1, .slice B n c]) (hn : x.2.length = n) (hc : n ≤ c) (hx : RdB W S B x.2) : SrcO W S (some ⟨b, 0, none⟩) [x] :=
  ⟨_, rfl, OCells.one hn hc hx, .inr ⟨_, rfl, fun j u hu => by
    rcases j with _ | _ | j
    · rw [add_zero']; exact h.cell 0 hu
    · exact h.cell 1 hu
    · simp at hu⟩⟩
theorem run_ownO {ty : TypeId} {m c : Nat} (h : OwnO W S base v o) (hu : SrcO W S A u) (hm : u.length = m) (hn : o.length + m ≤ 100000) (hS : ∀ b, S b → some b ≠ v.ownBlock) (hbase : base ≤ W.heap.size) :
    ∃ v' W', (Builtin.append_ #[25, 25] ty #[v, .slice A m c]).run Tryz.prog W = .ok v' W' ∧ OwnO W' S base v' (o ++ u) ∧ W.grownBy W' v.ownBlock := by
  obtain ⟨i0, hi0, hz0, hz1, hz2⟩ := info_parts info_origin
  obtain ⟨ys, hyl, hU, hsrc⟩ := hu
  have h0 := h
  obtain ⟨xs, hrow, hF⟩ := h
  by_cases hm0 : m = 0
  · have hu0 : u = [] := List.eq_nil_of_length_eq_zero (by omega)
    subst hu0
    obtain ⟨A0, c0, rfl, hc0⟩ := ownO_slice h0
    subst hm0
    exact ⟨_, W, run_append_none Tryz.underlying25 hi0 hc0, by rw [List.append_nil]; exact ⟨xs, hrow, hF⟩, ⟨rfl, rfl, rfl, Nat.le_refl _, fun _ _ _ => rfl⟩⟩
  · obtain ⟨a, rfl, hcell⟩ : ∃ a, A = some a ∧ ∀ (j : Nat) x, ys[j]? = some x → W.cell? (a.add j) = some x := by
      rcases hsrc with hy | h
      · rw [hy] at hyl; simp at hyl; omega
      · exact h
    obtain ⟨g, cap, W', hr, r1, r2, r3, r4⟩ := run_append_lies (P := Tryz.prog) (w := W) 25 ty base 48 i0 _ 2 40 Tryz.underlying25 hi0 hz0 hz1 hz2 rfl (by decide) v o.length xs hrow a m c ys (by rw [hyl, hm]) hcell (hU.cells1 hyl) (by omega) (by unfold maxLen; omega) (by omega) hbase W.heap.size rfl
    exact ⟨_, W', hr, ⟨xs ++ ys, by rw [List.length_append, hm]; exact r1, (hF.append hrow.1 hU).to ((alike_gr r2).mono fun b hb => hS b hb)⟩, r2⟩
theorem wpList_ownO {ops : Array Oper} {rest : List Oper} {op : Oper} {a : Act} {Q : Exit → Act → World → Prop} (hgd : op.guard = none) (s x : Operand)
    (ho : op.op = .call { callee := .builtin .append, args := #[s, x], argTypes := #[25, 25] })
    (S : Nat → Prop) (base m c : Nat) (v : Value) (A : Option Addr) (o u : OR) (hs : a.eval s = v) (hx : a.eval x = .slice A m c) (h : OwnO W S base v o) (hu : SrcO W S A u)
    (hm : u.length = m) (hn : o.length + m ≤ 100000) (hS : ∀ b, S b → some b ≠ v.ownBlock) (hbase : base ≤ W.heap.size)
    (hK : ∀ v' W', OwnO W' S base v' (o ++ u) → W.grownBy W' v.ownBlock → wpList Tryz.prog ops Q rest (a.put op.dst v') W') : wpList Tryz.prog ops Q (op :: rest) a W := by
  refine wpList_plain hgd fun K hK' => ?_
  obtain ⟨v', W', hrun, h2, h3⟩ := run_ownO (ty := op.type) (c := c) h hu hm hn hS hbase
  unfold Oper.wp execOp
  simp only [ho, resolve, invoke, builtin, Sem.run_bind, Sem.run_pure, Result.andThen_ok, List.map_toArray, List.map_cons, List.map_nil, hs, hx, hrun]
  exact hK' _ _ (hK v' W' h2 h3)
end

end Bm
end Go.Proofs.YtfnhjflocfmcoaaGreat

set_option maxRecDepth 100000
namespace Go.Proofs.YtfnhjflocfmcoaaGreat
namespace Bm
open Tx Sq Hk Tr Pr Fl Pn
set_option linter.unusedVariables false

/-- Where an origin of a name stands first. -/
def ixO (s : List UInt8) : OR → Option Nat
  | [] => none
  | x :: o => if x.1 = s then some 0 else (ixO s o).map (· + 1)
def ixOV (o : Option Nat) : Int := match o with | some k => (k : Int) | none => -1
theorem ixO_at {s : List UInt8} : ∀ {o : OR} {k : Nat} {x : List UInt8 × List Bi}, o[k]? = some x → x.1 = s → (∀ (j : Nat) y, o[j]? = some y → j < k → y.1 ≠ s) → ixO s o = some k
  | [], k, x, h, _, _ => by simp at h
  | y :: o, 0, x, h, e, _ => by
    injection h with h
    subst h
    rw [ixO, if_pos e]
  | y :: o, k + 1, x, h, e, hb => by
    have h0 : y.1 ≠ s := hb 0 y rfl (by omega)
    rw [ixO, if_neg h0, ixO_at (o := o) (k := k) (by simpa using h) e (fun j z hz hj => hb (j + 1) z (by simpa using hz) (by omega))]
    rfl
theorem ixO_no {s : List UInt8} : ∀ {o : OR}, (∀ (j : Nat) y, o[j]? = some y → y.1 ≠ s) → ixO s o = none
  | [], _ => rfl
  | y :: o, h => by
    rw [ixO, if_neg (h 0 y rfl), ixO_no fun j z hz => h (j + 1) z (by simpa using hz)]
    rfl
theorem ixO_get {s : List UInt8} : ∀ {o : OR} {m : List Bi}, get o s = some m → ∃ k x, ixO s o = some k ∧ o[k]? = some x ∧ x.1 = s ∧ x.2 = m
  | [], m, h => by cases h
  | y :: o, m, h => by
    rw [get_cons] at h
    by_cases e : y.1 = s
    · rw [if_pos e] at h
      injection h with h
      exact ⟨0, y, by rw [ixO, if_pos e], rfl, e, h⟩
    · rw [if_neg e] at h
      obtain ⟨k, x, h1, h2, h3, h4⟩ := ixO_get h
      exact ⟨k + 1, x, by rw [ixO, if_neg e, h1]; rfl, by simpa using h2, h3, h4⟩

/-- A round of put. -/
def stepO (s : List UInt8) (b : List Bi) (st : OR × Bool) (x : List UInt8 × List Bi) : OR × Bool :=
  (if x.1 = s then (if !st.2 && !Op.bytesLess x.1 s then st.1 ++ [(s, b)] else st.1) else (if !st.2 && !Op.bytesLess x.1 s then st.1 ++ [(s, b)] else st.1) ++ [x], st.2 || !Op.bytesLess x.1 s)
def putF (s : List UInt8) (b : List Bi) (o : OR) : OR := if (o.foldl (stepO s b) ([], false)).2 then (o.foldl (stepO s b) ([], false)).1 else (o.foldl (stepO s b) ([], false)).1 ++ [(s, b)]
theorem fold_true {s : List UInt8} {b : List Bi} : ∀ {o : OR} {out : OR}, (∀ x ∈ o, x.1 ≠ s) → o.foldl (stepO s b) (out, true) = (out ++ o, true)
  | [], out, _ => by simp
  | x :: o, out, h => by
    have hs : stepO s b (out, true) x = (out ++ [x], true) := by unfold stepO; simp [h x (.head _)]
    rw [List.foldl_cons, hs, fold_true fun y hy => h y (.tail _ hy)]
    simp
theorem fold_false {s : List UInt8} {b : List Bi} : ∀ {o : OR} {out : OR}, Up lt o → (if (o.foldl (stepO s b) (out, false)).2 then (o.foldl (stepO s b) (out, false)).1 else (o.foldl (stepO s b) (out, false)).1 ++ [(s, b)]) = out ++ put lt o s b
  | [], out, _ => rfl
  | x :: o, out, h => by
    obtain ⟨h1, h2⟩ := List.pairwise_cons.1 h
    rw [List.foldl_cons]
    cases hx : Op.bytesLess x.1 s with
    | true =>
      have hne : x.1 ≠ s := fun e => by rw [e, lin.irr] at hx; cases hx
      have hs : stepO s b (out, false) x = (out ++ [x], false) := by unfold stepO; simp [hx, hne]
      have hp : put lt (x :: o) s b = x :: put lt o s b := by
        unfold put
        rw [get_cons, if_neg hne]
        split
        · rw [upd, if_neg hne]
        · rw [ins, if_neg (by rw [show lt s x.1 = false from lin.asym hx]; decide)]
      rw [hs, fold_false h2, hp]
      simp
    | false =>
      by_cases e : x.1 = s
      · have hs : stepO s b (out, false) x = (out ++ [(s, b)], true) := by unfold stepO; simp [e, lin.irr]
        have hp : put lt (x :: o) s b = (s, b) :: o := by
          unfold put
          rw [get_cons, if_pos e, upd, if_pos e]
          rfl
        rw [hs, fold_true (fun y hy e' => by have := h1 y hy; rw [e, e', show lt s s = false from lin.irr s] at this; cases this), hp]
        simp
      · have hlt : Op.bytesLess s x.1 = true := (lin.tri e).resolve_left (by rw [hx]; decide)
        have hs : stepO s b (out, false) x = (out ++ [(s, b)] ++ [x], true) := by unfold stepO; simp [hx, e]
        have hgt : ∀ y ∈ o, y.1 ≠ s := fun y hy e' => by
          have := lin.tr hlt (h1 y hy)
          rw [e', lin.irr] at this; cases this
        have hg : get (x :: o) s = none := get_none.2 fun f hf => by
          rcases List.mem_cons.1 hf with rfl | hf
          · exact e
          · exact hgt f hf
        have hp : put lt (x :: o) s b = (s, b) :: x :: o := by
          unfold put
          rw [hg]
          show ins lt (x :: o) s b = _
          rw [ins, if_pos hlt]
        rw [hs, fold_true hgt, hp]
        simp
theorem put_eq {s : List UInt8} {b : List Bi} {o : OR} (h : Up lt o) : putF s b o = put lt o s b := by
  have := fold_false (s := s) (b := b) (out := []) h
  rw [List.nil_append] at this
  exact this
theorem fold_len {s : List UInt8} {b : List Bi} : ∀ {o : OR} {st : OR × Bool}, (o.foldl (stepO s b) st).1.length ≤ st.1.length + 2 * o.length
  | [], st => by simp
  | x :: o, st => by
    rw [List.foldl_cons]
    refine Nat.le_trans fold_len ?_
    have : (stepO s b st x).1.length ≤ st.1.length + 2 := by
      unfold stepO
      dsimp only
      split <;> split <;> simp
    rw [List.length_cons]
    omega
def delF (s : List UInt8) (o : OR) : OR := o.filter fun x => decide (x.1 ≠ s)
theorem del_eq {s : List UInt8} : ∀ {o : OR}, Up lt o → delF s o = del o s
  | [], _ => rfl
  | x :: o, h => by
    obtain ⟨h1, h2⟩ := List.pairwise_cons.1 h
    unfold delF del
    by_cases e : x.1 = s
    · rw [List.filter_cons_of_neg (by simp [e]), if_pos e, List.filter_eq_self.2]
      intro y hy
      have : y.1 ≠ s := fun e' => by have := h1 y hy; rw [e, e', show lt s s = false from lin.irr s] at this; cases this
      simpa using this
    · rw [List.filter_cons_of_pos (by simpa using e), if_neg e]
      exact congrArg _ (del_eq h2)

end Bm
end Go.Proofs.YtfnhjflocfmcoaaGreat

set_option maxRecDepth 100000
namespace Go.Proofs.YtfnhjflocfmcoaaGreat
open Go.RowKit
set_option linter.unusedVariables false
set_option linter.unusedSimpArgs false
namespace Bm
open Tx Df Sq Hk Tr Pr Fl Pn Tg

/-- How a function ends that tells origins. -/
def OrgEnd (w : World) (o : OR) (e : Ending) (w' : World) : Prop := ∃ A n c, e = .returned (.slice A n c) ∧ o.length = n ∧ n ≤ c ∧ RdO w' (· < w'.heap.size) A o ∧ Below w.heap.size w w'
/-- How a function ends that tells births, in memory that is new. -/
def BisEnd (w : World) (l : List Bi) (e : Ending) (w' : World) : Prop := ∃ A n c, e = .returned (.slice A n c) ∧ l.length = n ∧ n ≤ c ∧ RdB w' (Since w w') A l ∧ Below w.heap.size w w'

set_option maxHeartbeats 1000000 in
theorem refWhereO (s : List UInt8) (A : Option Addr) (c n : Nat) (S : Nat → Prop) (o : OR) (w : World) (hn : o.length = n) (hln : n ≤ 100000) (hR : RdO w S A o) :
    Calls Tryz.prog 25 #[.slice A n c, strV s] w fun e w' => e = .returned (.int .i64 (ixOV (ixO s o))) ∧ w = w' := by
  have HN := Lib.hid hn; have HR := Lib.hid hR; clear hn hR
  obtain ⟨iv, hiv⟩ : ∃ iv, ixOV (ixO s o) = iv := ⟨_, rfl⟩
  rw [hiv]
  have HIV := Lib.hid hiv; clear hiv
  go_enter Tryz.func25, Tryz.ntmps25
  go_wp2_with fail
  go_loop [5] (fun i => ∃ k : Nat, k ≤ n ∧ i = .int .i64 (k : Int) ∧ (∀ (j : Nat) y, o[j]? = some y → j < k → y.1 ≠ s)) (fun i => n - (intOf i).toNat)
  case atStart => exact ⟨0, Nat.zero_le _, rfl, fun j _ _ hj => by omega⟩
  case round =>
    obtain ⟨k, hk, rfl, hall⟩ := hrel
    have HA := Lib.hid hall; clear hall
    by_cases hlt : k < n
    · have hki : (k : Int) < (n : Int) := by omega
      obtain ⟨x, hx⟩ : ∃ x, o[k]? = some x := ⟨_, List.getElem?_eq_getElem (by rw [HN.out]; exact hlt)⟩
      obtain ⟨a, rfl, hab, hat⟩ := HR.out.elem hx
      have HX := Lib.hid hx; clear hx
      have c0 := hat.c0
      clear hat
      by_cases he : x.1 = s
      · have HE : Hid (iv = (k : Int)) := Lib.hid (by rw [← HIV.out, ixO_at HX.out he HA.out]; rfl)
        subst he
        go_wp2
        go_ret
        exact ⟨by rw [HE.out]; rfl, rfl⟩
      · have h1 : (x.1 == s) = false := by simpa using he
        have HE := Lib.hid he
        clear he
        go_wp2
        go_round
        case rel =>
          exact ⟨k + 1, by omega, by go_num, fun j y hy hj => by
            by_cases e : j = k
            · subst e
              have h := HX.out
              rw [h] at hy
              injection hy with hy
              exact hy ▸ HE.out
            · exact HA.out j y hy (by omega)⟩
        case measure => simp [intOf]; omega
    · obtain rfl : k = n := by omega
      have HE : Hid (iv = -1) := Lib.hid (by rw [← HIV.out, ixO_no fun j y hy => HA.out j y hy (by rw [← HN.out]; exact (List.getElem?_eq_some_iff.1 hy).1)]; rfl)
      go_wp2
      go_ret
      exact ⟨by rw [HE.out]; rfl, rfl⟩

theorem births_snoc (a : Tag) (k : Nat) : births a (k + 1) = births a k ++ [(a, k)] := by unfold births; rw [List.range_succ, List.map_append]; rfl
set_option maxHeartbeats 2000000 in
theorem refBirths (i : Id_) (no n : Nat) (w : World) (hle : n ≤ 1000) :
    Calls Tryz.prog 41 #[.agg #[.int .i64 i.1, .int .i64 i.2], .int .i64 (no : Int), .int .i64 (n : Int)] w (BisEnd w (births (i, no) n)) := by
  have b0 := Blk.new w 31 #[.int .i64 i.1, .int .i64 i.2]
  have hba : Below w.heap.size w (w.alloc (.cells #[.int .i64 i.1, .int .i64 i.2] 31)) := (Below.refl _ _).alloc (Nat.le_refl _) _
  go_enter Tryz.func41, Tryz.ntmps41
  go_upto_region 3 with fail
  generalize (w.alloc (.cells #[.int .i64 i.1, .int .i64 i.2] 31)) = w1 at b0 hba ⊢
  obtain ⟨z, hz⟩ : ∃ z, w.heap.size = z := ⟨_, rfl⟩
  rw [hz] at b0 ⊢
  have HZ := Lib.hid hz; have HB0 := Lib.hid b0; have HBA := Lib.hid hba
  clear hz b0 hba
  go_loopw [7, 8] (fun v j wr => ∃ (k : Nat) (A1 : Option Addr) (m c1 : Nat), k ≤ n ∧ j = .int .i64 (k : Int) ∧ v = .slice A1 m c1 ∧ OwnB wr w1.heap.size (.slice A1 m c1) (births (i, no) k) ∧ Below w1.heap.size w1 wr) (fun _ j _ => n - (intOf j).toNat)
  case atStart => exact ⟨0, none, 0, 0, Nat.zero_le _, rfl, rfl, ownB_nil _ _, Below.refl _ _⟩
  case round =>
    obtain ⟨k, A1, m, c1, hk, rfl, rfl, hO, hbw⟩ := hrel
    have HBW := Lib.hid hbw; have HO := Lib.hid hO; clear hbw hO
    by_cases hlt : k < n
    · have hki : (k : Int) < (n : Int) := by omega
      have hb0 := HB0.out.below HBW.out HB0.out.lt
      have x0 := hb0.cell 0 rfl; have x1 := hb0.cell 1 rfl; have xl := hb0.lt
      have hba : Below wr.heap.size wr (wr.alloc (.cells #[.int .i64 i.1, .int .i64 i.2, .int .i64 (no : Int), .int .i64 (k : Int)] 33)) := (Below.refl _ _).alloc (Nat.le_refl _) _
      have b1 := Blk.new wr 33 #[.int .i64 i.1, .int .i64 i.2, .int .i64 (no : Int), .int .i64 (k : Int)]
      have HS1 := Lib.hid (rdB_lone (S := fun _ => True) (x := ((i, no), k)) b1 trivial)
      have HO1 := Lib.hid (own_gr HO.out (below_gr_row hba))
      have HB1 := Lib.hid (below_mv HBW.out hba)
      have HL := Lib.hid (show (births (i, no) k).length + 1 ≤ 100000 by rw [births_len]; omega)
      clear hba b1 hb0
      go_wp2_with (at_builtin; refine wpList_ownB rfl (.tmp 14) (.tmp 19) rfl (fun _ => True) w1.heap.size 1 1 (.slice A1 m c1) (some ⟨wr.heap.size, 0, none⟩) (births (i, no) k) [((i, no), k)] rfl rfl HO1.out HS1.out rfl HL.out HB1.out.size ?_; intro v' W' ho hg)
      rw [← births_snoc] at ho
      obtain ⟨A9, c9, hv9, _, _⟩ := rdB_own ho
      subst hv9
      refine ⟨⟨k + 1, A9, _, c9, by omega, by go_num, rfl, ho, HB1.out.grown hg HB1.out.size (fun g e => ownB_ge HO1.out g e)⟩, by simp [intOf]; omega⟩
    · obtain rfl : k = n := by omega
      have hki : ¬ (k : Int) < (k : Int) := by omega
      go_wp2
      go_ret
      obtain ⟨A9, c9, e9, h9, h10⟩ := rdB_own HO.out
      injection e9 with e1 e2 e3
      subst e1 e2 e3
      have hs := HBA.out.size
      exact ⟨_, _, _, rfl, rfl, h9, h10.mono fun b hb => ⟨Nat.le_trans hs hb.1, hb.2⟩, below_mv HBA.out HBW.out⟩

end Bm
end Go.Proofs.YtfnhjflocfmcoaaGreat

set_option maxRecDepth 100000
namespace Go.Proofs.YtfnhjflocfmcoaaGreat
open Go.RowKit
set_option linter.unusedVariables false
set_option linter.unusedSimpArgs false
namespace Bm
open Tx Df Sq Hk Tr Pr Fl Pn Tg

theorem delF_next {s : List UInt8} {o : OR} {k : Nat} {x : List UInt8 × List Bi} (h : o[k]? = some x) : delF s (o.take (k + 1)) = delF s (o.take k) ++ (if x.1 = s then [] else [x]) := by
  have hk := (List.getElem?_eq_some_iff.1 h).1
  have e : o.take (k + 1) = o.take k ++ [x] := by rw [← List.take_append_getElem hk, (List.getElem?_eq_some_iff.1 h).2]
  unfold delF
  rw [e, List.filter_append]
  by_cases hs : x.1 = s
  · rw [if_pos hs, List.filter_cons_of_neg (by simp [hs])]; rfl
  · rw [if_neg hs, List.filter_cons_of_pos (by simpa using hs)]; rfl
theorem delF_len {s : List UInt8} {o : OR} : (delF s o).length ≤ o.length := List.length_filter_le _ _
theorem fold_next {s : List UInt8} {b : List Bi} {o : OR} {k : Nat} {x : List UInt8 × List Bi} (h : o[k]? = some x) : (o.take (k + 1)).foldl (stepO s b) ([], false) = stepO s b ((o.take k).foldl (stepO s b) ([], false)) x := by
  have hk := (List.getElem?_eq_some_iff.1 h).1
  have e : o.take (k + 1) = o.take k ++ [x] := by rw [← List.take_append_getElem hk, (List.getElem?_eq_some_iff.1 h).2]
  rw [e, List.foldl_append]
  rfl
section
variable {w wr W' : World} {v v' : Value} {o : OR} {A : Option Addr} {n c : Nat} {x : List UInt8 × List Bi}
/-- What an append of one origin wants. -/
theorem orgs_one (hO : OwnO wr (· < w.heap.size) w.heap.size v o) (hb : Below w.heap.size w wr) (hn : x.2.length = n) (hc : n ≤ c) (hx : RdB w (· < w.heap.size) A x.2) :
    OwnO (wr.alloc (.cells #[strV x.1, .slice A n c] 48)) (· < w.heap.size) w.heap.size v o ∧ SrcO (wr.alloc (.cells #[strV x.1, .slice A n c] 48)) (· < w.heap.size) (some ⟨wr.heap.size, 0, none⟩) [x] ∧ (∀ b, b < w.heap.size → some b ≠ v.ownBlock) ∧ w.heap.size ≤ (wr.alloc (.cells #[strV x.1, .slice A n c] 48)).heap.size ∧ Below w.heap.size w (wr.alloc (.cells #[strV x.1, .slice A n c] 48)) := by
  have hba : Below wr.heap.size wr (wr.alloc (.cells #[strV x.1, .slice A n c] 48)) := (Below.refl _ _).alloc (Nat.le_refl _) _
  have hb2 := below_mv hb hba
  refine ⟨hO.below hba, oneO_src (Blk.new wr _ _) hn hc (hx.to (fun b hb _ => hb2.block b hb)), fun b hb e => ?_, hb2.size, hb2⟩
  have := ownO_ge hO b e.symm
  omega
theorem orgs_grown (hb : Below w.heap.size w wr) (hO : OwnO wr (· < w.heap.size) w.heap.size v o) (hg : wr.grownBy W' v.ownBlock) : Below w.heap.size w W' := hb.grown hg hb.size (fun g e => ownO_ge hO g e)
theorem orgs_end {m : Nat} (hO : OwnO wr (· < w.heap.size) w.heap.size (.slice A m c) o) (hb : Below w.heap.size w wr) : OrgEnd w o (.returned (.slice A m c)) wr := by
  obtain ⟨A9, c9, e9, h9, h10⟩ := rdO_own hO
  injection e9 with e1 e2 e3
  subst e1 e2 e3
  have hs := hb.size
  exact ⟨_, _, _, rfl, rfl, h9, h10.mono fun b hb => hb.elim (fun h => Nat.lt_of_lt_of_le h hs) (fun h => h.2), hb⟩
end

set_option maxHeartbeats 2000000 in
theorem refDelO (s : List UInt8) (A : Option Addr) (c n : Nat) (o : OR) (w : World) (hn : o.length = n) (hln : n ≤ 10000) (hR : RdO w (· < w.heap.size) A o) :
    Calls Tryz.prog 40 #[.slice A n c, strV s] w (OrgEnd w (delF s o)) := by
  have HN := Lib.hid hn; have HR := Lib.hid hR; clear hn hR
  go_enter Tryz.func40, Tryz.ntmps40
  go_wp2_with fail
  go_loopw [5, 6] (fun v i wr => ∃ (k : Nat) (A1 : Option Addr) (m c1 : Nat), k ≤ n ∧ i = .int .i64 (k : Int) ∧ v = .slice A1 m c1 ∧ OwnO wr (· < w.heap.size) w.heap.size (.slice A1 m c1) (delF s (o.take k)) ∧ Below w.heap.size w wr) (fun _ i _ => n - (intOf i).toNat)
  case atStart => exact ⟨0, none, 0, 0, Nat.zero_le _, rfl, rfl, ownO_nil _ _ _, Below.refl _ _⟩
  case round =>
    obtain ⟨k, A1, m, c1, hk, rfl, rfl, hO, hbw⟩ := hrel
    have HBW := Lib.hid hbw; have HO := Lib.hid hO; clear hbw hO
    by_cases hlt : k < n
    · have hki : (k : Int) < (n : Int) := by omega
      obtain ⟨x, hx⟩ : ∃ x, o[k]? = some x := ⟨_, List.getElem?_eq_getElem (by rw [HN.out]; exact hlt)⟩
      obtain ⟨a, rfl, hab, hat⟩ := HR.out.elem hx
      obtain ⟨c0, B, cb, c1', hcb, hrb⟩ := hat
      have HX := Lib.hid hx; have HRB := Lib.hid hrb; have HCB := Lib.hid hcb
      have HC : Hid (∀ X, Below w.heap.size w X → X.cell? (a.add (k * 2)) = some (strV x.1) ∧ X.cell? ⟨(a.add (k * 2)).block, (a.add (k * 2)).off + 1, none⟩ = some (.slice B x.2.length cb)) := Lib.hid (fun X hb => ⟨cellB c0 hb (by rw [add_block]; exact hab), cellB c1' hb (by rw [add_block]; exact hab)⟩)
      clear hx hrb hcb c0 c1'
      obtain ⟨nb, hnb⟩ : ∃ nb, x.2.length = nb := ⟨_, rfl⟩
      rw [hnb] at HC HCB
      have HNB := Lib.hid hnb; clear hnb
      obtain ⟨y0, y1⟩ := HC.out wr HBW.out
      have HNX := Lib.hid (delF_next (s := s) HX.out)
      by_cases he : x.1 = s
      · have h1 : (x.1 != s) = false := by simpa using he
        have h2 : (x.1 == s) = true := by simpa using he
        have HD : Hid (delF s (o.take (k + 1)) = delF s (o.take k)) := Lib.hid (by rw [HNX.out, if_pos he, List.append_nil])
        clear he
        go_wp2
        refine ⟨⟨k + 1, A1, m, c1, by omega, by go_num, rfl, by rw [HD.out]; exact HO.out, HBW.out⟩, by simp [intOf]; omega⟩
      · have h1 : (x.1 != s) = true := by simpa using he
        have h2 : (x.1 == s) = false := by simpa using he
        have HD : Hid (delF s (o.take (k + 1)) = delF s (o.take k) ++ [x]) := Lib.hid (by rw [HNX.out, if_neg he])
        obtain ⟨s1, s2, s3, s4, s5⟩ := orgs_one HO.out HBW.out HNB.out HCB.out HRB.out
        have S1 := Lib.hid s1; have S2 := Lib.hid s2; have S3 := Lib.hid s3; have S5 := Lib.hid s5
        have HL := Lib.hid (show (delF s (o.take k)).length + 1 ≤ 100000 by have h := delF_len (s := s) (o := o.take k); rw [List.length_take] at h; omega)
        clear he s1 s2 s3 s5
        go_wp2_with (at_builtin; refine wpList_ownO rfl (.tmp 20) (.tmp 25) rfl (· < w.heap.size) w.heap.size 1 1 (.slice A1 m c1) (some ⟨wr.heap.size, 0, none⟩) (delF s (o.take k)) [x] rfl rfl S1.out S2.out rfl HL.out S3.out s4 ?_; intro v' W' ho hg; have HG := Lib.hid hg; have HO2 := Lib.hid ho; clear hg ho)
        obtain ⟨A9, c9, hv9, _⟩ := ownO_slice HO2.out
        subst hv9
        refine ⟨⟨k + 1, A9, _, c9, by omega, by go_num, rfl, by rw [HD.out]; exact HO2.out, orgs_grown S5.out S1.out HG.out⟩, by simp [intOf]; omega⟩
    · obtain rfl : k = n := by omega
      have hki : ¬ (k : Int) < (k : Int) := by omega
      have HE := Lib.hid (orgs_end HO.out HBW.out)
      have e : o.take k = o := List.take_of_length_le (by rw [HN.out]; exact Nat.le_refl _)
      rw [e] at HE
      go_wp2
      go_ret
      exact HE.out

theorem OrgEnd.as {w w' : World} {o o' : OR} {e : Ending} (h : OrgEnd w o e w') (he : o = o') : OrgEnd w o' e w' := he ▸ h
/-- What a round of put appends ahead of the origin at hand; and of it. -/
theorem stepO_parts {s : List UInt8} {b : List Bi} {out : OR} {d : Bool} {x : List UInt8 × List Bi} : stepO s b (out, d) x = (out ++ ((if (!d && !Op.bytesLess x.1 s) = true then [(s, b)] else []) ++ (if x.1 = s then [] else [x])), d || !Op.bytesLess x.1 s) := by
  unfold stepO
  by_cases h : (!d && !Op.bytesLess x.1 s) = true
  · by_cases e : x.1 = s
    · rw [if_pos e, if_pos h, if_pos h, if_pos e, List.append_nil]
    · rw [if_neg e, if_pos h, if_pos h, if_neg e, List.append_assoc]
  · by_cases e : x.1 = s
    · rw [if_pos e, if_neg h, if_neg h, if_pos e, List.append_nil, List.append_nil]
    · rw [if_neg e, if_neg h, if_neg h, if_neg e, List.nil_append]

set_option maxRecDepth 100000 in
set_option maxHeartbeats 4000000 in
theorem refPutO (s : List UInt8) (A : Option Addr) (c n : Nat) (o : OR) (B : Option Addr) (nb cb : Nat) (b : List Bi) (w : World) (hn : o.length = n) (hln : n ≤ 10000) (hR : RdO w (· < w.heap.size) A o) (hb : b.length = nb) (hcb : nb ≤ cb) (hRB : RdB w (· < w.heap.size) B b) :
    Calls Tryz.prog 39 #[.slice A n c, strV s, .slice B nb cb] w (OrgEnd w (putF s b o)) := by
  have HN := Lib.hid hn; have HR := Lib.hid hR; have HNB := Lib.hid hb; have HCB := Lib.hid hcb; have HRB := Lib.hid hRB; clear hn hR hb hcb hRB
  go_enter Tryz.func39, Tryz.ntmps39
  go_wp2_with fail
  go_loopw [7, 8, 9] (fun v d i wr => ∃ (k : Nat) (A1 : Option Addr) (m c1 : Nat) (bd : Bool) (out : OR), k ≤ n ∧ i = .int .i64 (k : Int) ∧ v = .slice A1 m c1 ∧ d = .bool bd ∧ (o.take k).foldl (stepO s b) ([], false) = (out, bd) ∧ OwnO wr (· < w.heap.size) w.heap.size (.slice A1 m c1) out ∧ Below w.heap.size w wr) (fun _ _ i _ => n - (intOf i).toNat)
  case atStart => exact ⟨0, none, 0, 0, false, [], Nat.zero_le _, rfl, rfl, rfl, rfl, ownO_nil _ _ _, Below.refl _ _⟩
  case round =>
    obtain ⟨k, A1, m, c1, bd, out, hk, rfl, rfl, rfl, hout, hO, hbw⟩ := hrel
    have HBW := Lib.hid hbw; have HO := Lib.hid hO; have HOUT := Lib.hid hout; clear hbw hO
    have HLO : Hid (out.length ≤ 2 * k) := Lib.hid (by
      have h := fold_len (s := s) (b := b) (o := o.take k) (st := ([], false))
      rw [hout, List.length_take] at h
      simp at h
      omega)
    clear hout
    by_cases hlt : k < n
    · have hki : (k : Int) < (n : Int) := by omega
      obtain ⟨x, hx⟩ : ∃ x, o[k]? = some x := ⟨_, List.getElem?_eq_getElem (by rw [HN.out]; exact hlt)⟩
      obtain ⟨a, rfl, hab, hat⟩ := HR.out.elem hx
      obtain ⟨c0, D, cd, c1', hcd, hrd⟩ := hat
      have HRD := Lib.hid hrd
      obtain ⟨nd, hnd⟩ : ∃ nd, x.2.length = nd := ⟨_, rfl⟩
      rw [hnd] at c1' hcd
      have HND := Lib.hid hnd; have HCD := Lib.hid hcd
      have HC : Hid (∀ X, Below w.heap.size w X → X.cell? (a.add (k * 2)) = some (strV x.1) ∧ X.cell? ⟨(a.add (k * 2)).block, (a.add (k * 2)).off + 1, none⟩ = some (.slice D nd cd)) := Lib.hid (fun X hb => ⟨cellB c0 hb (by rw [add_block]; exact hab), cellB c1' hb (by rw [add_block]; exact hab)⟩)
      have HNX : Hid ((o.take (k + 1)).foldl (stepO s b) ([], false) = (out ++ ((if (!bd && !Op.bytesLess x.1 s) = true then [(s, b)] else []) ++ (if x.1 = s then [] else [x])), bd || !Op.bytesLess x.1 s)) := Lib.hid (by rw [fold_next hx, HOUT.out, stepO_parts])
      clear hx hrd hcd c0 c1' hnd
      obtain ⟨y0, y1⟩ := HC.out wr HBW.out
      obtain ⟨bl, hbl⟩ : ∃ bl, Op.bytesLess x.1 s = bl := ⟨_, rfl⟩
      rw [hbl] at HNX
      have HSB := Lib.hid (show (2 * k + 2 : Nat) ≤ 100000 by omega)
      by_cases hnew : (!bd && !bl) = true
      · -- the file is put ahead
        have hbd : bd = false := by cases bd <;> simp_all
        have hbf : bl = false := by cases bl <;> simp_all
        subst hbd hbf
        clear hnew
        obtain ⟨s1, s2, s3, s4, s5⟩ := orgs_one (x := (s, b)) HO.out HBW.out HNB.out HCB.out HRB.out
        have S1 := Lib.hid s1; have S2 := Lib.hid s2; have S3 := Lib.hid s3; have S4 := Lib.hid s4; have S5 := Lib.hid s5
        have HL1 := Lib.hid (show out.length + 1 ≤ 100000 by have := HLO.out; omega)
        clear s1 s2 s3 s4 s5
        by_cases he : x.1 = s
        · have h1 : (x.1 != s) = false := by simpa using he
          have h2 : (x.1 == s) = true := by simpa using he
          have HD : Hid ((o.take (k + 1)).foldl (stepO s b) ([], false) = (out ++ [(s, b)], true)) := Lib.hid (by rw [HNX.out, if_pos he]; simp)
          clear he
          go_wp2_with (at_builtin; refine wpList_ownO rfl (.tmp 27) (.tmp 31) rfl (· < w.heap.size) w.heap.size 1 1 (.slice A1 m c1) (some ⟨wr.heap.size, 0, none⟩) out [(s, b)] rfl rfl S1.out S2.out rfl HL1.out S3.out S4.out ?_; intro v' W' ho hg; have hb2 := orgs_grown S5.out S1.out hg; obtain ⟨y2, y3⟩ := HC.out W' hb2; have HO2 := Lib.hid ho; have HB2 := Lib.hid hb2; clear ho hg hb2)
          obtain ⟨A9, c9, hv9, _⟩ := ownO_slice HO2.out
          subst hv9
          refine ⟨⟨k + 1, A9, _, c9, true, _, by omega, by go_num, rfl, rfl, HD.out, HO2.out, HB2.out⟩, by simp [intOf]; omega⟩
        · have h1 : (x.1 != s) = true := by simpa using he
          have h2 : (x.1 == s) = false := by simpa using he
          have HD : Hid ((o.take (k + 1)).foldl (stepO s b) ([], false) = (out ++ [(s, b)] ++ [x], true)) := Lib.hid (by rw [HNX.out, if_neg he]; simp)
          have HL2 := Lib.hid (show (out ++ [(s, b)]).length + 1 ≤ 100000 by have := HLO.out; rw [List.length_append, List.length_singleton]; omega)
          clear he
          go_wp2_with (first
            | (at_builtin; refine wpList_ownO rfl (.tmp 27) (.tmp 31) rfl (· < w.heap.size) w.heap.size 1 1 (.slice A1 m c1) (some ⟨wr.heap.size, 0, none⟩) out [(s, b)] rfl rfl S1.out S2.out rfl HL1.out S3.out S4.out ?_; intro v1 W1 ho hg; have hb2 := orgs_grown S5.out S1.out hg; obtain ⟨y2, y3⟩ := HC.out W1 hb2; obtain ⟨s1, s2, s3, s4, s5⟩ := orgs_one ho hb2 HND.out HCD.out HRD.out; have T1 := Lib.hid s1; have T2 := Lib.hid s2; have T3 := Lib.hid s3; have T4 := Lib.hid s4; have T5 := Lib.hid s5; clear ho hg hb2 s1 s2 s3 s4 s5)
            | (at_builtin; refine wpList_ownO rfl (.tmp 40) (.tmp 45) rfl (· < w.heap.size) w.heap.size 1 1 v1 (some ⟨W1.heap.size, 0, none⟩) (out ++ [(s, b)]) [x] rfl rfl T1.out T2.out rfl HL2.out T3.out T4.out ?_; intro v2 W2 ho hg; have hb2 := orgs_grown T5.out T1.out hg; have HO2 := Lib.hid ho; have HB2 := Lib.hid hb2; clear ho hg hb2))
          obtain ⟨A9, c9, hv9, _⟩ := ownO_slice HO2.out
          subst hv9
          refine ⟨⟨k + 1, A9, _, c9, true, _, by omega, by go_num, rfl, rfl, HD.out, HO2.out, HB2.out⟩, by simp [intOf]; omega⟩
      · have HNW : Hid ((!bd && !bl) = false) := Lib.hid (by simpa using hnew)
        have HDN : Hid ((bd || !bl) = bd) := Lib.hid (by cases bd <;> cases bl <;> simp_all)
        clear hnew
        by_cases he : x.1 = s
        · have h1 : (x.1 != s) = false := by simpa using he
          have h2 : (x.1 == s) = true := by simpa using he
          have HD : Hid ((o.take (k + 1)).foldl (stepO s b) ([], false) = (out, bd)) := Lib.hid (by rw [HNX.out, if_pos he, HDN.out, HNW.out]; simp)
          clear he
          cases bd with
          | true =>
            go_wp2
            refine ⟨⟨k + 1, A1, m, c1, true, out, by omega, by go_num, rfl, rfl, HD.out, HO.out, HBW.out⟩, by simp [intOf]; omega⟩
          | false =>
            obtain rfl : bl = true := by have h := HNW.out; cases bl <;> simp_all
            go_wp2
            refine ⟨⟨k + 1, A1, m, c1, false, out, by omega, by go_num, rfl, rfl, HD.out, HO.out, HBW.out⟩, by simp [intOf]; omega⟩
        · have h1 : (x.1 != s) = true := by simpa using he
          have h2 : (x.1 == s) = false := by simpa using he
          have HD : Hid ((o.take (k + 1)).foldl (stepO s b) ([], false) = (out ++ [x], bd)) := Lib.hid (by rw [HNX.out, if_neg he, HDN.out, HNW.out]; simp)
          obtain ⟨s1, s2, s3, s4, s5⟩ := orgs_one HO.out HBW.out HND.out HCD.out HRD.out
          have S1 := Lib.hid s1; have S2 := Lib.hid s2; have S3 := Lib.hid s3; have S4 := Lib.hid s4; have S5 := Lib.hid s5
          have HL1 := Lib.hid (show out.length + 1 ≤ 100000 by have := HLO.out; omega)
          clear he s1 s2 s3 s4 s5
          have hbc : bd = true ∨ (bd = false ∧ bl = true) := by have h := HNW.out; cases bd <;> cases bl <;> simp_all
          rcases hbc with rfl | ⟨rfl, rfl⟩
          · go_wp2_with (at_builtin; refine wpList_ownO rfl (.tmp 40) (.tmp 45) rfl (· < w.heap.size) w.heap.size 1 1 (.slice A1 m c1) (some ⟨wr.heap.size, 0, none⟩) out [x] rfl rfl S1.out S2.out rfl HL1.out S3.out S4.out ?_; intro v' W' ho hg; have hb2 := orgs_grown S5.out S1.out hg; have HO2 := Lib.hid ho; have HB2 := Lib.hid hb2; clear ho hg hb2)
            obtain ⟨A9, c9, hv9, _⟩ := ownO_slice HO2.out
            subst hv9
            refine ⟨⟨k + 1, A9, _, c9, true, _, by omega, by go_num, rfl, rfl, HD.out, HO2.out, HB2.out⟩, by simp [intOf]; omega⟩
          · go_wp2_with (at_builtin; refine wpList_ownO rfl (.tmp 40) (.tmp 45) rfl (· < w.heap.size) w.heap.size 1 1 (.slice A1 m c1) (some ⟨wr.heap.size, 0, none⟩) out [x] rfl rfl S1.out S2.out rfl HL1.out S3.out S4.out ?_; intro v' W' ho hg; have hb2 := orgs_grown S5.out S1.out hg; have HO2 := Lib.hid ho; have HB2 := Lib.hid hb2; clear ho hg hb2)
            obtain ⟨A9, c9, hv9, _⟩ := ownO_slice HO2.out
            subst hv9
            refine ⟨⟨k + 1, A9, _, c9, false, _, by omega, by go_num, rfl, rfl, HD.out, HO2.out, HB2.out⟩, by simp [intOf]; omega⟩
    · obtain rfl : k = n := by omega
      have hki : ¬ (k : Int) < (k : Int) := by omega
      have e : o.take k = o := List.take_of_length_le (by rw [HN.out]; exact Nat.le_refl _)
      have HF : Hid (putF s b o = if bd then out else out ++ [(s, b)]) := Lib.hid (by have h := HOUT.out; rw [e] at h; unfold putF; rw [h])
      cases bd with
      | true =>
        have HE := Lib.hid (orgs_end HO.out HBW.out)
        rw [← show putF s b o = out from HF.out] at HE
        go_wp2
        go_ret
        exact HE.out
      | false =>
        obtain ⟨s1, s2, s3, s4, s5⟩ := orgs_one (x := (s, b)) HO.out HBW.out HNB.out HCB.out HRB.out
        have S1 := Lib.hid s1; have S2 := Lib.hid s2; have S3 := Lib.hid s3; have S4 := Lib.hid s4; have S5 := Lib.hid s5
        have HL1 := Lib.hid (show out.length + 1 ≤ 100000 by have := HLO.out; omega)
        clear s1 s2 s3 s4 s5
        go_wp2_with (at_builtin; refine wpList_ownO rfl (.tmp 49) (.tmp 53) rfl (· < w.heap.size) w.heap.size 1 1 (.slice A1 m c1) (some ⟨wr.heap.size, 0, none⟩) out [(s, b)] rfl rfl S1.out S2.out rfl HL1.out S3.out S4.out ?_; intro v' W' ho hg; have hb2 := orgs_grown S5.out S1.out hg; have HO2 := Lib.hid ho; have HB2 := Lib.hid hb2; clear ho hg hb2)
        go_ret
        obtain ⟨A9, c9, hv9, _⟩ := ownO_slice HO2.out
        subst hv9
        exact (orgs_end HO2.out HB2.out).as (show out ++ [(s, b)] = putF s b o from HF.out.symm)

end Bm
end Go.Proofs.YtfnhjflocfmcoaaGreat

set_option maxRecDepth 100000
namespace Go.Proofs.YtfnhjflocfmcoaaGreat
open Go.RowKit
set_option linter.unusedVariables false
set_option linter.unusedSimpArgs false
namespace Bm
open Tx Df Sq Hk Tr Pr Fl Pn Tg

theorem OrgEnd.of {w w1 w' : World} {o o' : OR} {e : Ending} (h : OrgEnd w1 o e w') (hb : Below w.heap.size w w1) (he : o = o') : OrgEnd w o' e w' := by
  subst he
  obtain ⟨A, n, c, h1, h2, h3, h4, h5⟩ := h
  exact ⟨A, n, c, h1, h2, h3, h4, below_mv hb h5⟩

theorem bis_grown {w W W' : World} {v : Value} {l : List Bi} (hb : Below w.heap.size w W) (hO : OwnB W w.heap.size v l) (hg : W.grownBy W' v.ownBlock) : Below w.heap.size w W' := hb.grown hg hb.size (fun g e => ownB_ge hO g e)
theorem rdB_cut {W : World} {S : Nat → Prop} {A : Option Addr} {l : List Bi} (h : RdB W S A l) {k cap : Nat} (hc : l.length ≤ cap) : RdB W S (if cap = k then A else A.map (·.add (k * 4))) (l.drop k) := by
  by_cases e : cap = k
  · subst e
    rw [if_pos rfl, List.drop_of_length_le hc]
    exact .inl rfl
  · rw [if_neg e]
    exact h.drop k

set_option maxRecDepth 100000 in
set_option maxHeartbeats 8000000 in
theorem refOneO (A : Option Addr) (n c : Nat) (o : OR) (i : Id_) (no : Nat) (Ap : Option Addr) (np cp : Nat) (Bp : Option Addr) (mp dp : Nat) (p : Ch) (w : World) (hup : Up lt o) (hn : o.length = n) (hln : n ≤ 5000) (hR : RdO w (· < w.heap.size) A o) (hv : PV w w.heap.size Ap np cp Bp mp dp p)
    (hk : p.k = 0 ∨ p.k = 1 ∨ p.k = 2 ∨ p.k = 3 ∨ p.k = 4) (hg : p.k ≠ 0 → p.k ≠ 1 → ∃ m, get o p.nm = some m ∧ m.length ≤ 50000 ∧ (p.k ≠ 2 → 0 ≤ p.h.pos ∧ p.h.pos.toNat + p.h.old.length ≤ m.length)) (hnew : p.h.new.length ≤ 1000) :
    Calls Tryz.prog 22 #[.slice A n c, .agg #[.int .i64 i.1, .int .i64 i.2], .int .i64 (no : Int), prV p.k p.nm p.to p.h.pos Ap np cp Bp mp dp] w (OrgEnd w (oneB o (i, no) p)) := by
  have b0 := (Blk.new w 31 #[.int .i64 i.1, .int .i64 i.2]).alloc (.cells #[.int .i64 p.k, strV p.nm, strV p.to, .int .i64 p.h.pos, .slice Ap np cp, .slice Bp mp dp] 55)
  have b1 := Blk.new (w.alloc (.cells #[.int .i64 i.1, .int .i64 i.2] 31)) 55 #[.int .i64 p.k, strV p.nm, strV p.to, .int .i64 p.h.pos, .slice Ap np cp, .slice Bp mp dp]
  have hba := two_box w (.cells #[.int .i64 i.1, .int .i64 i.2] 31) (.cells #[.int .i64 p.k, strV p.nm, strV p.to, .int .i64 p.h.pos, .slice Ap np cp, .slice Bp mp dp] 55)
  simp only [World.size_alloc] at b1
  have HUP := Lib.hid hup; have HN := Lib.hid hn; have HG := Lib.hid hg; have HR := Lib.hid (RdO.mv hR hba)
  have HLN : Hid (p.h.old.length = np ∧ p.h.new.length = mp) := Lib.hid ⟨hv.h.l, hv.h.l'⟩
  have HNEW := Lib.hid hnew; have HPI := Lib.hid hv.h.p
  clear hup hn hg hR hv hnew
  go_enter Tryz.func22, Tryz.ntmps22
  go_upto_region 1 with fail
  generalize ((w.alloc (.cells #[.int .i64 i.1, .int .i64 i.2] 31)).alloc (.cells #[.int .i64 p.k, strV p.nm, strV p.to, .int .i64 p.h.pos, .slice Ap np cp, .slice Bp mp dp] 55)) = w1 at b0 b1 hba HR ⊢
  obtain ⟨z, hz⟩ : ∃ z, w.heap.size = z := ⟨_, rfl⟩
  rw [hz] at b0 b1 ⊢
  have HZ := Lib.hid hz; have HB0 := Lib.hid b0; have HB1 := Lib.hid b1; have HBA := Lib.hid hba
  clear hz b0 b1 hba
  have x0 := HB1.out.cell 0 rfl; have x1 := HB1.out.cell 1 rfl; have x2 := HB1.out.cell 2 rfl; have x3 := HB1.out.cell 3 rfl; have x4 := HB1.out.cell 4 rfl; have x5 := HB1.out.cell 5 rfl
  have xl := HB1.out.lt
  go_wp2_with fail
  refine (refWhereO p.nm A c n (· < w1.heap.size) o w1 HN.out (by omega) HR.out).mono ?_
  rintro e w' ⟨rfl, rfl⟩
  obtain ⟨ix, hix⟩ : ∃ ix, ixOV (ixO p.nm o) = ix := ⟨_, rfl⟩
  rw [hix]
  have HIX := Lib.hid hix
  clear hix
  rcases hk with h | h | h | h
  · rw [h] at x0
    have HE : Hid (putF p.nm [] o = oneB o (i, no) p) := Lib.hid (by rw [put_eq HUP.out]; unfold oneB; rw [if_pos h])
    go_wp2_with fail
    refine (refPutO p.nm A c n o none 0 0 [] w1 HN.out (by omega) HR.out rfl (Nat.le_refl _) (.inl rfl)).mono ?_
    rintro e w2 ⟨A2, n2, c2, rfl, h1, h2, h3, hb⟩
    have HF := Lib.hid ((show OrgEnd w1 (putF p.nm [] o) (.returned (.slice A2 n2 c2)) w2 from ⟨A2, n2, c2, rfl, h1, h2, h3, hb⟩).of HBA.out HE.out)
    clear x0 x1 x2 x3 x4 x5 xl h1 h2 h3 hb
    go_wp2
    go_ret
    exact HF.out
  · rw [h] at x0
    have HE : Hid (delF p.nm o = oneB o (i, no) p) := Lib.hid (by rw [del_eq HUP.out]; unfold oneB; rw [if_neg (by rw [h]; decide), if_pos h])
    go_wp2_with fail
    refine (refDelO p.nm A c n o w1 HN.out (by omega) HR.out).mono ?_
    rintro e w2 ⟨A2, n2, c2, rfl, h1, h2, h3, hb⟩
    have HF := Lib.hid ((show OrgEnd w1 (delF p.nm o) (.returned (.slice A2 n2 c2)) w2 from ⟨A2, n2, c2, rfl, h1, h2, h3, hb⟩).of HBA.out HE.out)
    clear x0 x1 x2 x3 x4 x5 xl h1 h2 h3 hb
    go_wp2
    go_ret
    exact HF.out
  · obtain ⟨m, hm, hml, _⟩ := HG.out (by rw [h]; decide) (by rw [h]; decide)
    obtain ⟨kx, x, h1, h2, h3, h4⟩ := ixO_get hm
    obtain rfl : (kx : Int) = ix := by rw [← HIX.out, h1]; rfl
    have hkx := (List.getElem?_eq_some_iff.1 h2).1
    rw [HN.out] at hkx
    obtain ⟨a, rfl, hab, c0, B, cb, c1, hcb, hrb⟩ := HR.out.elem h2
    subst h4
    have HE : Hid (putF p.to x.2 (delF p.nm o) = oneB o (i, no) p) := Lib.hid (by
      rw [del_eq HUP.out, put_eq (up_del HUP.out _)]
      unfold oneB
      rw [if_neg (by rw [h]; decide), if_neg (by rw [h]; decide), if_pos h, hm]
      rfl)
    obtain ⟨nb, hnb⟩ : ∃ nb, x.2.length = nb := ⟨_, rfl⟩
    rw [hnb] at c1 hcb hml
    have HNB := Lib.hid hnb; have HRB := Lib.hid hrb; have HCB := Lib.hid hcb
    have HC : Hid (∀ X, Below w1.heap.size w1 X → X.cell? ⟨z + 1, 1, none⟩ = some (strV p.nm) ∧ X.cell? ⟨z + 1, 2, none⟩ = some (strV p.to) ∧ X.cell? ⟨(a.add (kx * 2)).block, (a.add (kx * 2)).off + 1, none⟩ = some (.slice B nb cb)) := Lib.hid (fun X hb => ⟨(HB1.out.below hb HB1.out.lt).cell 1 rfl, (HB1.out.below hb HB1.out.lt).cell 2 rfl, cellB c1 hb (by rw [add_block]; exact hab)⟩)
    have HKB := Lib.hid (show Below w1.heap.size w1 w1.drew from below_drewN (Below.refl _ _) 1)
    have HKD := Lib.hid (HC.out w1.drew HKB.out)
    have PD := Lib.hid (refDelO p.nm (some a) c n o w1.drew HN.out (by omega) (RdO.mv HR.out HKB.out))
    have PP : Hid (∀ (X : World) A2 n2 c2, Below w1.heap.size w1 X → (delF p.nm o).length = n2 → RdO X (· < X.heap.size) A2 (delF p.nm o) → Calls Tryz.prog 39 #[.slice A2 n2 c2, strV p.to, .slice B nb cb] X (OrgEnd X (putF p.to x.2 (delF p.nm o)))) := Lib.hid (fun X A2 n2 c2 hb h1 h2 => refPutO p.to A2 c2 n2 (delF p.nm o) B nb cb x.2 X h1 (by have := delF_len (s := p.nm) (o := o); have := HN.out; omega) h2 HNB.out HCB.out ((HRB.out.to (fun b _ hl => hb.block b hl)).mono fun b h => Nat.lt_of_lt_of_le h hb.size))
    have hki0 : (0 : Int) ≤ (kx : Int) := by omega
    have hki : (kx : Int) < (n : Int) := by omega
    have hxk : (p.k == 0) = false := by rw [h]; rfl
    clear hcb hrb c0 h1 h2 h3 hm hnb
    rw [h] at x0
    go_upto_region 8 with fail
    obtain ⟨z1, z2, z3⟩ := HC.out w1 (Below.refl _ _)
    clear x0 x1 x2 x3 x4 x5 c1
    go_region_held3 (fun X => X.cell? ⟨z + 1, 1, none⟩ = some (strV p.nm) ∧ X.cell? ⟨z + 1, 2, none⟩ = some (strV p.to) ∧ X.cell? ⟨(a.add (kx * 2)).block, (a.add (kx * 2)).off + 1, none⟩ = some (.slice B nb cb))
      (first | (with_reducible exact HKD.out) | (with_reducible exact hS1) | (with_reducible exact hS2))
      (first
        | (go_at_call 40; (with_reducible refine (PD.out).mono ?_); rintro e u1 ⟨A2, n2, c2, rfl, q1, q2, q3, hb⟩; have hbu := below_mv HKB.out hb; have hS1 := HC.out u1 hbu; have PQ := Lib.hid (PP.out u1 A2 n2 c2 hbu q1 q3); have HU := Lib.hid hbu; clear hb hbu q1 q2 q3)
        | (go_at_call 39; (with_reducible refine (PQ.out).mono ?_); rintro e u2 ⟨A3, n3, c3, rfl, q1, q2, q3, hb⟩; have hS2 := HC.out u2 (below_mv HU.out hb); have HF := Lib.hid ((show OrgEnd u1 (putF p.to x.2 (delF p.nm o)) (.returned (.slice A3 n3 c3)) u2 from ⟨A3, n3, c3, rfl, q1, q2, q3, hb⟩).of (below_mv HBA.out HU.out) HE.out); clear hb q1 q2 q3))
    all_goals (try go_wp2_with fail)
    all_goals go_ret
    all_goals exact HF.out
  · obtain ⟨m, hm, hml, hpl⟩ := HG.out (by rcases h with h | h <;> rw [h] <;> decide) (by rcases h with h | h <;> rw [h] <;> decide)
    obtain ⟨hp0, hpl⟩ := hpl (by rcases h with h | h <;> rw [h] <;> decide)
    obtain ⟨kx, x, h1, h2, h3, h4⟩ := ixO_get hm
    obtain rfl : (kx : Int) = ix := by rw [← HIX.out, h1]; rfl
    have hkx := (List.getElem?_eq_some_iff.1 h2).1
    rw [HN.out] at hkx
    obtain ⟨a, rfl, hab, c0, B, cb, c1, hcb, hrb⟩ := HR.out.elem h2
    subst h4
    have HE : Hid (putF p.nm (born (i, no) p x.2) o = oneB o (i, no) p) := Lib.hid (by
      rw [put_eq HUP.out]
      unfold oneB
      rw [if_neg (by rcases h with h | h <;> rw [h] <;> decide), if_neg (by rcases h with h | h <;> rw [h] <;> decide), if_neg (by rcases h with h | h <;> rw [h] <;> decide), hm]
      rfl)
    obtain ⟨nb, hnb⟩ : ∃ nb, x.2.length = nb := ⟨_, rfl⟩
    rw [hnb] at c1 hcb hml hpl
    obtain ⟨P, hP⟩ : ∃ P : Nat, p.h.pos = (P : Int) := ⟨p.h.pos.toNat, by omega⟩
    rw [(HLN.out).1, hP, Int.toNat_natCast] at hpl
    rw [hP] at x3
    have HBN : Hid (born (i, no) p x.2 = x.2.take P ++ births (i, no) mp ++ x.2.drop (P + np)) := Lib.hid (by
      unfold born Sq.swp
      rw [hP, (HLN.out).1, (HLN.out).2, Int.toNat_natCast, List.append_assoc])
    have HNB := Lib.hid hnb; have HRB := Lib.hid hrb; have HCB := Lib.hid hcb; have HMP : Hid (mp ≤ 1000) := Lib.hid (by rw [← (HLN.out).2]; exact HNEW.out)
    have HC : Hid (∀ X, Below w1.heap.size w1 X → X.cell? ⟨z, 0, none⟩ = some (.int .i64 i.1) ∧ X.cell? ⟨z, 1, none⟩ = some (.int .i64 i.2) ∧ X.cell? ⟨z + 1, 1, none⟩ = some (strV p.nm) ∧ X.cell? ⟨z + 1, 5, none⟩ = some (.slice Bp mp dp) ∧ X.cell? ⟨(a.add (kx * 2)).block, (a.add (kx * 2)).off + 1, none⟩ = some (.slice B nb cb)) := Lib.hid (fun X hb => ⟨(HB0.out.below hb HB0.out.lt).cell 0 rfl, (HB0.out.below hb HB0.out.lt).cell 1 rfl, (HB1.out.below hb HB1.out.lt).cell 1 rfl, (HB1.out.below hb HB1.out.lt).cell 5 rfl, cellB c1 hb (by rw [add_block]; exact hab)⟩)
    have HRBm : Hid (∀ X, Below w1.heap.size w1 X → RdB X (· < w1.heap.size) B x.2) := Lib.hid (fun X hb => HRB.out.to (fun b _ hl => hb.block b hl))
    have hki0 : (0 : Int) ≤ (kx : Int) := by omega
    have hki : (kx : Int) < (n : Int) := by omega
    have hq0 : (p.k == 0) = false := by rcases h with h | h <;> rw [h] <;> rfl
    have hq1 : (p.k == 1) = false := by rcases h with h | h <;> rw [h] <;> rfl
    have hq2 : (p.k == 2) = false := by rcases h with h | h <;> rw [h] <;> rfl
    have HL1 := Lib.hid (show (x.2.take P).length = P by rw [List.length_take, HNB.out]; omega)
    have HL3 := Lib.hid (show (x.2.drop (P + np)).length = nb - (P + np) by rw [List.length_drop, HNB.out])
    have HS1 := Lib.hid ((HRBm.out w1 (Below.refl _ _)).take P)
    obtain ⟨z0, z1, z2, z3, z4⟩ := HC.out w1 (Below.refl _ _)
    have HN0 := Lib.hid (ownB_nil w1 w1.heap.size)
    clear hrb c0 c1 h1 h2 h3 hm hnb HNEW
    go_wp2_with (at_builtin; refine wpList_ownB rfl (.const (.slice none 0 0)) (.tmp 58) rfl (· < w1.heap.size) w1.heap.size P cb (.slice none 0 0) B [] (x.2.take P) rfl rfl HN0.out HS1.out HL1.out (by simp only [List.length_nil]; omega) (Nat.le_refl _) ?_; intro v2 W2 ho hg; rw [List.nil_append] at ho; have hb2 := bis_grown (Below.refl _ _) HN0.out hg; obtain ⟨y0, y1, y2, y3, y4⟩ := HC.out W2 hb2; have HO2 := Lib.hid ho; have HB2 := Lib.hid hb2; clear ho hg hb2)
    refine (refBirths i no mp W2 HMP.out).mono ?_
    rintro e W3 ⟨A3, n3, c3, rfl, hl3, hc3, hr3, hb3⟩
    rw [births_len] at hl3
    subst hl3
    have HO3 := Lib.hid (own_gr HO2.out (below_gr_row hb3))
    have hb13 := below_mv HB2.out hb3
    obtain ⟨v0, v1, v2', v3, v4⟩ := HC.out W3 hb13
    have HB3 := Lib.hid hb13; have HR3 := Lib.hid hr3
    have HLL := Lib.hid (show (x.2.take P).length + mp ≤ 100000 by rw [HL1.out]; have := HMP.out; omega)
    have HL2 := Lib.hid (show (x.2.take P ++ births (i, no) mp).length + (nb - (P + np)) ≤ 100000 by rw [List.length_append, HL1.out, births_len]; have := HMP.out; omega)
    have HLB := Lib.hid (births_len (i, no) mp)
    clear hr3 hb3 hb13
    obtain hck | hck := Classical.em (cb = P + np)
    all_goals
      have hcut := fun X hb => rdB_cut (k := P + np) (cap := cb) (HRBm.out X hb) (by rw [HNB.out]; exact HCB.out)
      first | rw [if_pos hck] at hcut | rw [if_neg hck] at hcut
      have HCUT := Lib.hid hcut
      clear hcut
      go_wp2_with (first
        | (at_builtin; refine wpList_ownB rfl (.tmp 60) (.tmp 67) rfl (Since W2 W3) w1.heap.size mp c3 v2 A3 (x.2.take P) (births (i, no) mp) rfl rfl HO3.out HR3.out HLB.out HLL.out HB3.out.size ?_; intro v5 W5 ho hg; have hb5 := bis_grown HB3.out HO3.out hg; obtain ⟨u0, u1, u2, u3, u4⟩ := HC.out W5 hb5; have HO5 := Lib.hid ho; have HB5 := Lib.hid hb5; clear ho hg hb5)
        | (at_builtin; refine wpList_ownB rfl (.tmp 69) (.tmp 78) rfl (· < w1.heap.size) w1.heap.size (nb - (P + np)) _ v5 _ (x.2.take P ++ births (i, no) mp) (x.2.drop (P + np)) rfl rfl HO5.out (HCUT.out W5 HB5.out) HL3.out HL2.out HB5.out.size ?_; intro v6 W6 ho hg; rw [← HBN.out] at ho; have hb6 := bis_grown HB5.out HO5.out hg; obtain ⟨t0, t1, t2, t3, t4⟩ := HC.out W6 hb6; have HO6 := Lib.hid ho; have HB6 := Lib.hid hb6; clear ho hg hb6))
      obtain ⟨A6, c6, hv6, hc6, hr6⟩ := rdB_own HO6.out
      subst hv6
      refine (refPutO p.nm (some a) c n o A6 _ c6 (born (i, no) p x.2) W6 HN.out (by omega) (RdO.mv HR.out HB6.out) rfl hc6 (hr6.mono fun b hb => hb.2)).mono ?_
      rintro e W7 ⟨A7, n7, c7, rfl, q1, q2, q3, hb⟩
      have HF := Lib.hid ((show OrgEnd W6 (putF p.nm (born (i, no) p x.2) o) (.returned (.slice A7 n7 c7)) W7 from ⟨A7, n7, c7, rfl, q1, q2, q3, hb⟩).of (below_mv HBA.out HB6.out) HE.out)
      clear q1 q2 q3 hb
      go_wp2
      go_ret
      exact HF.out

end Bm
end Go.Proofs.YtfnhjflocfmcoaaGreat
