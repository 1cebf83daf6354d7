/-
  What the program's own May of layer 8 returns, and the methods that it calls (walks).
-/
import Derived.Test.YtbiiabfhngdeiaaGR
import Derived.Test.YtbiiabfhngdeiaaGH
import Derived.Test.YtbiiabfhngdeiaaGQ
import Derived.BigQuiet
import Derived.Deep.RegionHeld3
import Derived.Deep.Cut
import Derived.Laws.EntriesVeiled
set_option maxRecDepth 100000
namespace Go.Proofs.Ytbiiabfhngdeiaa
open Go.RowKit
set_option linter.unusedVariables false
set_option linter.unusedSimpArgs false
namespace Pr
open Tx Df Sq Hk Tr

theorem NameB (x : List UInt8) (w : World) (b : Bool) (hx : x.length ≤ maxLen) (hb : name x = b) : Calls Try.prog 30 #[strV x] w fun e w' => e = .returned (.bool b) ∧ w = w' := by
  have := Name ⟨x.toArray⟩ w (by rw [size_strV]; exact hx)
  rw [← hb]
  simpa using this

/-- The box of a change with methods. -/
abbrev boxC (w : World) (k : Int) (nm to : List UInt8) (q : Int) (A : Option Addr) (n c : Nat) (A' : Option Addr) (n' c' : Nat) : World := w.alloc (.cells #[.int .i64 k, strV nm, strV to, .int .i64 q, .slice A n c, .slice A' n' c'] 99)
theorem below_box1 (w : World) (o : Obj) : Below w.heap.size w (w.alloc o) := (Below.refl _ _).alloc (Nat.le_refl _) _
theorem hv_mv {w w' : World} {A A' : Option Addr} {n c n' c' : Nat} {h : HU} (v : HV w w.heap.size A n c A' n' c' h) (hb : Below w.heap.size w w') : HV w' w'.heap.size A n c A' n' c' h := (v.below hb).up hb.size
theorem hv_none (w : World) (B : Nat) : HV w B none 0 0 none 0 0 noneH := ⟨rfl, rfl, Nat.le_refl _, Nat.le_refl _, Nat.zero_le _, Nat.zero_le _, .inl rfl, .inl rfl, by unfold I64; decide⟩
theorem sameH_none (h : HU) : sameH h noneH = noH h := by
  rw [Bool.eq_iff_iff, noH_iff]
  constructor
  · intro hs
    cases h
    simp only [sameH, noneH, Bool.and_eq_true] at hs ⊢
    obtain ⟨h1, h2, h3⟩ := hs
    obtain rfl := of_decide_eq_true h1
    obtain rfl := of_decide_eq_true h2
    obtain rfl := of_decide_eq_true h3
    rfl
  · rintro rfl
    decide
theorem below_via {w0 w w' : World} (h : Below w0.heap.size w0 w) (hb : Below w.heap.size w w') : Below w0.heap.size w0 w' := h.trans (hb.mono h.size)

set_option maxHeartbeats 1000000 in
theorem noHunk (A : Option Addr) (n c : Nat) (A' : Option Addr) (n' c' : Nat) (k : Int) (nm to : List UInt8) (q : Int) (h : HU) (w : World) (b : Bool) (hq : h.pos = q) (hv : HV w w.heap.size A n c A' n' c' h) (hb : noH h = b) :
    Calls Try.prog 100 #[prV k nm to q A n c A' n' c'] w (TestEnd w b) := by
  have hbx := below_box1 w (.cells #[.int .i64 k, strV nm, strV to, .int .i64 q, .slice A n c, .slice A' n' c'] 99)
  have h3 := SameH A n c A' n' c' none 0 0 none 0 0 (boxC w k nm to q A n c A' n' c').heap.size h noneH (boxC w k nm to q A n c A' n' c') (Nat.le_refl _) (hv_mv hv hbx) (hv_none _ _)
  rw [sameH_none, hb, hq] at h3
  have H3 := Lib.hid h3; have HBX := Lib.hid hbx
  clear h3 hbx hv hb hq
  go_enter Try.func100, Try.ntmps100
  go_wp2_with fail
  refine H3.out.mono ?_
  rintro e w1 ⟨rfl, hb1⟩
  have HB1 := Lib.hid (below_via HBX.out hb1)
  clear hb1
  go_wp2
  go_ret
  exact ⟨rfl, HB1.out⟩

set_option maxHeartbeats 1000000 in
theorem namesOne (A : Option Addr) (n c : Nat) (A' : Option Addr) (n' c' : Nat) (k : Int) (nm to : List UInt8) (q : Int) (h : HU) (w : World) (b : Bool) (hq : h.pos = q) (hv : HV w w.heap.size A n c A' n' c' h) (hb : (decide (to = []) && noH h) = b) :
    Calls Try.prog 88 #[prV k nm to q A n c A' n' c'] w (TestEnd w b) := by
  have hbx := below_box1 w (.cells #[.int .i64 k, strV nm, strV to, .int .i64 q, .slice A n c, .slice A' n' c'] 99)
  obtain ⟨bo, hbo⟩ : ∃ b, noH h = b := ⟨_, rfl⟩
  rw [hbo] at hb
  have h3 := noHunk A n c A' n' c' k nm to q h (boxC w k nm to q A n c A' n' c') bo hq (hv_mv hv hbx) hbo
  have H3 := Lib.hid h3; have HBX := Lib.hid hbx; have HB := Lib.hid hb
  clear h3 hbx hv hb hq hbo
  by_cases ht : to = []
  · subst ht
    go_enter Try.func88, Try.ntmps88
    go_wp2_with fail
    refine H3.out.mono ?_
    rintro e w1 ⟨rfl, hb1⟩
    have HB1 := Lib.hid (below_via HBX.out hb1)
    clear hb1
    go_wp2
    go_ret
    exact ⟨ret_bool (by rw [← HB.out]; simp), HB1.out⟩
  · have et : (to == []) = false := by simpa using ht
    go_enter Try.func88, Try.ntmps88
    go_wp2
    go_ret
    exact ⟨ret_bool (by rw [← HB.out, decide_eq_false ht]; simp), HBX.out⟩

set_option maxHeartbeats 1000000 in
theorem hasHunk (A : Option Addr) (n c : Nat) (A' : Option Addr) (n' c' : Nat) (k : Int) (nm to : List UInt8) (q : Int) (h : HU) (w : World) (b : Bool) (hq : h.pos = q) (hv : HV w w.heap.size A n c A' n' c' h) (hb : (decide (to = []) && mayH h) = b) :
    Calls Try.prog 90 #[prV k nm to q A n c A' n' c'] w (TestEnd w b) := by
  have hbx := below_box1 w (.cells #[.int .i64 k, strV nm, strV to, .int .i64 q, .slice A n c, .slice A' n' c'] 99)
  obtain ⟨bo, hbo⟩ : ∃ b, mayH h = b := ⟨_, rfl⟩
  rw [hbo] at hb
  have h3 := May A n c A' n' c' (boxC w k nm to q A n c A' n' c').heap.size h (boxC w k nm to q A n c A' n' c') (Nat.le_refl _) (hv_mv hv hbx)
  rw [hbo, hq] at h3
  have H3 := Lib.hid h3; have HBX := Lib.hid hbx; have HB := Lib.hid hb
  clear h3 hbx hv hb hq hbo
  by_cases ht : to = []
  · subst ht
    go_enter Try.func90, Try.ntmps90
    go_wp2_with fail
    refine H3.out.mono ?_
    rintro e w1 ⟨rfl, hb1⟩
    have HB1 := Lib.hid (below_via HBX.out hb1)
    clear hb1
    go_wp2
    go_ret
    exact ⟨ret_bool (by rw [← HB.out]; simp), HB1.out⟩
  · have et : (to == []) = false := by simpa using ht
    go_enter Try.func90, Try.ntmps90
    go_wp2
    go_ret
    exact ⟨ret_bool (by rw [← HB.out, decide_eq_false ht]; simp), HBX.out⟩

set_option maxHeartbeats 1000000 in
theorem hasLines (A : Option Addr) (n c : Nat) (A' : Option Addr) (n' c' : Nat) (k : Int) (nm to : List UInt8) (q : Int) (h : HU) (w : World) (b : Bool) (hq : h.pos = q) (hv : HV w w.heap.size A n c A' n' c' h) (hb : (decide (to = []) && (mayH h && decide (h.pos = 0))) = b) :
    Calls Try.prog 91 #[prV k nm to q A n c A' n' c'] w (TestEnd w b) := by
  have hbx := below_box1 w (.cells #[.int .i64 k, strV nm, strV to, .int .i64 q, .slice A n c, .slice A' n' c'] 99)
  obtain ⟨bo, hbo⟩ : ∃ b, (decide (to = []) && mayH h) = b := ⟨_, rfl⟩
  rw [← Bool.and_assoc, hbo, hq] at hb
  have h3 := hasHunk A n c A' n' c' k nm to q h (boxC w k nm to q A n c A' n' c') bo hq (hv_mv hv hbx) hbo
  have b0 := Blk.new w 99 #[.int .i64 k, strV nm, strV to, .int .i64 q, .slice A n c, .slice A' n' c']
  have H3 := Lib.hid h3; have HBX := Lib.hid hbx; have HB := Lib.hid hb; have B0 := Lib.hid b0
  clear h3 hbx hv hb hq hbo b0
  go_enter Try.func91, Try.ntmps91
  go_wp2_with fail
  refine H3.out.mono ?_
  rintro e w1 ⟨rfl, hb1⟩
  have HB1 := Lib.hid (below_via HBX.out hb1)
  have b1 := B0.out.below hb1 B0.out.lt
  have x3 : w1.cell? ⟨w.heap.size, 3, none⟩ = some (.int .i64 q) := b1.cell 3 rfl
  clear hb1 b1 B0
  cases bo with
  | false =>
    go_wp2
    go_ret
    exact ⟨ret_bool (by rw [← HB.out]; simp), HB1.out⟩
  | true =>
    by_cases h0 : q = 0
    · have e0 : (q == 0) = true := by simpa using h0
      go_wp2
      go_ret
      exact ⟨ret_bool (by rw [← HB.out, decide_eq_true h0]; simp), HB1.out⟩
    · have e0 : (q == 0) = false := by simpa using h0
      go_wp2
      go_ret
      exact ⟨ret_bool (by rw [← HB.out, decide_eq_false h0]; simp), HB1.out⟩

set_option maxHeartbeats 1000000 in
theorem namesTwo (A : Option Addr) (n c : Nat) (A' : Option Addr) (n' c' : Nat) (k : Int) (nm to : List UInt8) (q : Int) (h : HU) (w : World) (b : Bool) (hto : to.length ≤ maxLen) (hq : h.pos = q) (hv : HV w w.heap.size A n c A' n' c' h) (hb : (name to && (decide (to ≠ nm) && noH h)) = b) :
    Calls Try.prog 89 #[prV k nm to q A n c A' n' c'] w (TestEnd w b) := by
  have hbx := below_box1 w (.cells #[.int .i64 k, strV nm, strV to, .int .i64 q, .slice A n c, .slice A' n' c'] 99)
  obtain ⟨bo, hbo⟩ : ∃ b, noH h = b := ⟨_, rfl⟩
  obtain ⟨bn, hbn⟩ : ∃ b, name to = b := ⟨_, rfl⟩
  rw [hbo, hbn] at hb
  have h3 := noHunk A n c A' n' c' k nm to q h (boxC w k nm to q A n c A' n' c') bo hq (hv_mv hv hbx) hbo
  have HN := Lib.hid (fun w => NameB to w bn hto hbn)
  have H3 := Lib.hid h3; have HBX := Lib.hid hbx; have HB := Lib.hid hb
  clear h3 hbx hv hb hq hbo hbn
  go_enter Try.func89, Try.ntmps89
  go_wp2_with fail
  refine (HN.out _).mono ?_
  rintro e w1 ⟨rfl, rfl⟩
  cases bn with
  | false =>
    go_wp2
    go_ret
    exact ⟨ret_bool (by rw [← HB.out]; simp), HBX.out⟩
  | true =>
    by_cases ht : to = nm
    · have et : (to == nm) = true := by simpa using ht
      have HO : Hid (false = b) := Lib.hid (by rw [← HB.out]; simp [ht])
      clear ht
      go_wp2
      go_ret
      exact ⟨ret_bool HO.out, HBX.out⟩
    · have et : (to == nm) = false := by simpa using ht
      go_wp2_with fail
      refine H3.out.mono ?_
      rintro e w1 ⟨rfl, hb1⟩
      have HB1 := Lib.hid (below_via HBX.out hb1)
      clear hb1
      go_wp2
      go_ret
      exact ⟨ret_bool (by rw [← HB.out]; simp [ht]), HB1.out⟩

/-- Five cells are set. -/
theorem blk5 {W : World} {b : Nat} {t : TypeId} {x0 x1 x2 x3 x4 : Value} (h : Blk W b t #[x0, x1, x2, x3, x4]) (v0 v1 v2 v3 v4 : Value) : Blk (((((World.setCell W ⟨b, 0, none⟩ v0).setCell ⟨b, 1, none⟩ v1).setCell ⟨b, 2, none⟩ v2).setCell ⟨b, 3, none⟩ v3).setCell ⟨b, 4, none⟩ v4) b t #[v0, v1, v2, v3, v4] :=
  have b0 : Blk _ b t #[v0, x1, x2, x3, x4] := h.set 0 v0
  have b1 : Blk _ b t #[v0, v1, x2, x3, x4] := b0.set 1 v1
  have b2 : Blk _ b t #[v0, v1, v2, x3, x4] := b1.set 2 v2
  have b3 : Blk _ b t #[v0, v1, v2, v3, x4] := b2.set 3 v3
  have b4 : Blk _ b t #[v0, v1, v2, v3, v4] := b3.set 4 v4
  b4
theorem below5 {w W : World} {b : Nat} (hb : Below b w W) (v0 v1 v2 v3 v4 : Value) : Below b w (((((World.setCell W ⟨b, 0, none⟩ v0).setCell ⟨b, 1, none⟩ v1).setCell ⟨b, 2, none⟩ v2).setCell ⟨b, 3, none⟩ v3).setCell ⟨b, 4, none⟩ v4) :=
  ((((hb.setCell (p := ⟨b, 0, none⟩) (Nat.le_refl _) v0).setCell (p := ⟨b, 1, none⟩) (Nat.le_refl _) v1).setCell (p := ⟨b, 2, none⟩) (Nat.le_refl _) v2).setCell (p := ⟨b, 3, none⟩) (Nat.le_refl _) v3).setCell (p := ⟨b, 4, none⟩) (Nat.le_refl _) v4

set_option maxHeartbeats 1000000 in
theorem forms (w : World) : Calls Try.prog 73 #[] w fun e w' => e = .returned (.agg #[.func (.func 88) #[] #[], .func (.func 88) #[] #[], .func (.func 89) #[] #[], .func (.func 90) #[] #[], .func (.func 91) #[] #[]]) ∧ Below w.heap.size w w' := by
  have hb := below_box1 w (.cells #[.nilFunc, .nilFunc, .nilFunc, .nilFunc, .nilFunc] 106)
  have b0 := Blk.new w 106 #[.nilFunc, .nilFunc, .nilFunc, .nilFunc, .nilFunc]
  go_enter Try.func73, Try.ntmps73
  go_upto_region 1 with fail
  generalize w.alloc (.cells #[.nilFunc, .nilFunc, .nilFunc, .nilFunc, .nilFunc] 106) = w1 at *
  have x0 : w1.cell? ⟨w.heap.size, 0, none⟩ = some .nilFunc := b0.cell 0 rfl
  have f0 : w1.frozen? ⟨w.heap.size, 0, none⟩ = false := b0.frozen 0
  have x1 : w1.cell? ⟨w.heap.size, 1, none⟩ = some .nilFunc := b0.cell 1 rfl
  have f1 : w1.frozen? ⟨w.heap.size, 1, none⟩ = false := b0.frozen 1
  have x2 : w1.cell? ⟨w.heap.size, 2, none⟩ = some .nilFunc := b0.cell 2 rfl
  have f2 : w1.frozen? ⟨w.heap.size, 2, none⟩ = false := b0.frozen 2
  have x3 : w1.cell? ⟨w.heap.size, 3, none⟩ = some .nilFunc := b0.cell 3 rfl
  have f3 : w1.frozen? ⟨w.heap.size, 3, none⟩ = false := b0.frozen 3
  have x4 : w1.cell? ⟨w.heap.size, 4, none⟩ = some .nilFunc := b0.cell 4 rfl
  have f4 : w1.frozen? ⟨w.heap.size, 4, none⟩ = false := b0.frozen 4
  have b1 := blk5 b0 (.func (.func 88) #[] #[]) (.func (.func 88) #[] #[]) (.func (.func 89) #[] #[]) (.func (.func 90) #[] #[]) (.func (.func 91) #[] #[])
  have HB := Lib.hid (below5 hb (.func (.func 88) #[] #[]) (.func (.func 88) #[] #[]) (.func (.func 89) #[] #[]) (.func (.func 90) #[] #[]) (.func (.func 91) #[] #[])); have B1 := Lib.hid b1
  clear b0 b1 hb
  go_wp2
  have b1 := B1.out; have hb := HB.out
  clear x0 x1 x2 x3 x4 f0 f1 f2 f3 f4 B1 HB
  generalize (World.setCell (World.setCell (World.setCell (World.setCell (World.setCell w1 ⟨w.heap.size, 0, none⟩ (.func (.func 88) #[] #[])) ⟨w.heap.size, 1, none⟩ (.func (.func 88) #[] #[])) ⟨w.heap.size, 2, none⟩ (.func (.func 89) #[] #[])) ⟨w.heap.size, 3, none⟩ (.func (.func 90) #[] #[])) ⟨w.heap.size, 4, none⟩ (.func (.func 91) #[] #[])) = w2 at *
  have q0 : w2.cell? ⟨w.heap.size, 0, none⟩ = some (.func (.func 88) #[] #[]) := b1.cell 0 rfl
  have q1 : w2.cell? ⟨w.heap.size, 1, none⟩ = some (.func (.func 88) #[] #[]) := b1.cell 1 rfl
  have q2 : w2.cell? ⟨w.heap.size, 2, none⟩ = some (.func (.func 89) #[] #[]) := b1.cell 2 rfl
  have q3 : w2.cell? ⟨w.heap.size, 3, none⟩ = some (.func (.func 90) #[] #[]) := b1.cell 3 rfl
  have q4 : w2.cell? ⟨w.heap.size, 4, none⟩ = some (.func (.func 91) #[] #[]) := b1.cell 4 rfl
  refine bodyPost_ret (v := .agg #[.func (.func 88) #[] #[], .func (.func 88) #[] #[], .func (.func 89) #[] #[], .func (.func 90) #[] #[], .func (.func 91) #[] #[]]) (by simp [results, Try.results73, go_sem, q0, q1, q2, q3, q4]) rfl ?_
  exact ⟨rfl, hb⟩

theorem index_may (w : World) (i : Int) (f : Value) (hi : 0 ≤ i ∧ i < 5) (hf : (#[.func (.func 88) #[] #[], .func (.func 88) #[] #[], .func (.func 89) #[] #[], .func (.func 90) #[] #[], .func (.func 91) #[] #[]] : Array Value)[i.toNat]? = some f) :
    (Instr.index 106 (.agg #[.func (.func 88) #[] #[], .func (.func 88) #[] #[], .func (.func 89) #[] #[], .func (.func 90) #[] #[], .func (.func 91) #[] #[]]) (.int .i64 i)).run Try.prog w = .ok f w :=
  run_index_array Try.underlying106 hi (by kernel_rfl) (by kernel_rfl) hf

set_option maxHeartbeats 4000000 in
theorem MayP0 (A : Option Addr) (n c : Nat) (A' : Option Addr) (n' c' : Nat) (nm to : List UInt8) (q : Int) (w : World) (bn bm : Bool) (hn : nm.length ≤ maxLen) (hb : name nm = bn)
    (hm : ∀ w1, Below w.heap.size w w1 → Calls Try.prog 88 #[prV 0 nm to q A n c A' n' c'] w1 (TestEnd w1 bm)) :
    Calls Try.prog 59 #[prV 0 nm to q A n c A' n' c'] w (TestEnd w (bn && bm)) := by
  have HN := Lib.hid (fun w => NameB nm w bn hn hb)
  have hbx : Below w.heap.size w (box w 0 nm to q A n c A' n' c') := (Below.refl _ _).alloc (Nat.le_refl _) _
  have HBX := Lib.hid hbx; have H1 := Lib.hid hm
  have b0 := Blk.new w 51 #[.int .i64 0, strV nm, strV to, .int .i64 q, .slice A n c, .slice A' n' c']
  clear hbx hm hb
  go_enter Try.func59, Try.ntmps59
  go_wp2_with fail
  have HH : Hid (∀ w1, Below (box w 0 nm to q A n c A' n' c').heap.size (box w 0 nm to q A n c A' n' c').drew w1 → Blk w1 w.heap.size 51 #[.int .i64 0, strV nm, strV to, .int .i64 q, .slice A n c, .slice A' n' c']) := Lib.hid (fun w1 hb => (b0.drewN 1).below hb (by simp))
  have HT : Hid (∀ w1, Below (box w 0 nm to q A n c A' n' c').heap.size (box w 0 nm to q A n c A' n' c').drew w1 → Below w.heap.size w w1) := Lib.hid (fun w1 hb => (below_drewN HBX.out 1).trans (hb.mono HBX.out.size))
  have HBD : Hid (∀ d, Below w.heap.size w ((box w 0 nm to q A n c A' n' c').drewN d)) := Lib.hid (below_drewN HBX.out)
  generalize hW : box w 0 nm to q A n c A' n' c' = W at *
  unfold box at hW
  rw [hW] at b0 ⊢
  clear hW
  have x0 : W.cell? ⟨w.heap.size, 0, none⟩ = some (.int .i64 0) := b0.cell 0 rfl
  have x1 : W.cell? ⟨w.heap.size, 1, none⟩ = some (strV nm) := b0.cell 1 rfl
  have x2 : W.cell? ⟨w.heap.size, 2, none⟩ = some (strV to) := b0.cell 2 rfl
  have x3 : W.cell? ⟨w.heap.size, 3, none⟩ = some (.int .i64 q) := b0.cell 3 rfl
  have x4 : W.cell? ⟨w.heap.size, 4, none⟩ = some (.slice A n c) := b0.cell 4 rfl
  have x5 : W.cell? ⟨w.heap.size, 5, none⟩ = some (.slice A' n' c') := b0.cell 5 rfl
  clear b0
  have qi := fun w => index_may w 0 _ (by decide) rfl
  cases bn with
  | false =>
    have HN0 : Hid (∀ d : Nat, Calls Try.prog 30 #[strV nm] (W.drewN d) fun e w' => e = .returned (.bool false) ∧ ∃ m, w' = (W.drewN d).drewN m) := Lib.hid (fun d => (HN.out (W.drewN d)).mono (by rintro e w' ⟨rfl, rfl⟩; exact ⟨rfl, 0, rfl⟩))
    go_quiet (with_reducible exact Calls.quiet_of (HN0.out _))
    go_wp2
    go_ret
    exact ⟨rfl, HBD.out _⟩
  | true =>
    go_region_held3 (fun w' => w'.cell? ⟨w.heap.size, 0, none⟩ = some (.int .i64 0) ∧ w'.cell? ⟨w.heap.size, 1, none⟩ = some (strV nm) ∧ w'.cell? ⟨w.heap.size, 2, none⟩ = some (strV to) ∧ w'.cell? ⟨w.heap.size, 3, none⟩ = some (.int .i64 q) ∧ w'.cell? ⟨w.heap.size, 4, none⟩ = some (.slice A n c) ∧ w'.cell? ⟨w.heap.size, 5, none⟩ = some (.slice A' n' c'))
      (first | go_keep | (exact ⟨y0, y1, y2, y3, y4, y5⟩) | (exact ⟨z0, z1, z2, z3, z4, z5⟩))
      (first
        | (go_at_call 30; refine (HN.out W.drew).mono ?_; rintro e w1 ⟨rfl, rfl⟩)
        | (go_at_call 73; refine (forms W.drew).mono ?_; rintro e w1 ⟨rfl, hb1⟩; have b1 := HH.out w1 hb1; have hb01 := HT.out w1 hb1; have y0 : w1.cell? ⟨w.heap.size, 0, none⟩ = some (.int .i64 0) := b1.cell 0 rfl; have y1 : w1.cell? ⟨w.heap.size, 1, none⟩ = some (strV nm) := b1.cell 1 rfl; have y2 : w1.cell? ⟨w.heap.size, 2, none⟩ = some (strV to) := b1.cell 2 rfl; have y3 : w1.cell? ⟨w.heap.size, 3, none⟩ = some (.int .i64 q) := b1.cell 3 rfl; have y4 : w1.cell? ⟨w.heap.size, 4, none⟩ = some (.slice A n c) := b1.cell 4 rfl; have y5 : w1.cell? ⟨w.heap.size, 5, none⟩ = some (.slice A' n' c') := b1.cell 5 rfl; have HB1 := Lib.hid hb01; have B1 := Lib.hid b1; clear b1 hb1 hb01)
        | (go_at_call 88; refine (H1.out w1 HB1.out).mono ?_; rintro e w2 ⟨rfl, hb2⟩; have hb02 := below_via HB1.out hb2; have b2 := B1.out.below hb2 B1.out.lt; have z0 : w2.cell? ⟨w.heap.size, 0, none⟩ = some (.int .i64 0) := b2.cell 0 rfl; have z1 : w2.cell? ⟨w.heap.size, 1, none⟩ = some (strV nm) := b2.cell 1 rfl; have z2 : w2.cell? ⟨w.heap.size, 2, none⟩ = some (strV to) := b2.cell 2 rfl; have z3 : w2.cell? ⟨w.heap.size, 3, none⟩ = some (.int .i64 q) := b2.cell 3 rfl; have z4 : w2.cell? ⟨w.heap.size, 4, none⟩ = some (.slice A n c) := b2.cell 4 rfl; have z5 : w2.cell? ⟨w.heap.size, 5, none⟩ = some (.slice A' n' c') := b2.cell 5 rfl; have HB2 := Lib.hid hb02; clear b2 hb2 hb02))
    go_wp2
    go_ret
    exact ⟨ret_bool (by simp), HB2.out⟩

set_option maxHeartbeats 4000000 in
theorem MayP1 (A : Option Addr) (n c : Nat) (A' : Option Addr) (n' c' : Nat) (nm to : List UInt8) (q : Int) (w : World) (bn bm : Bool) (hn : nm.length ≤ maxLen) (hb : name nm = bn)
    (hm : ∀ w1, Below w.heap.size w w1 → Calls Try.prog 88 #[prV 1 nm to q A n c A' n' c'] w1 (TestEnd w1 bm)) :
    Calls Try.prog 59 #[prV 1 nm to q A n c A' n' c'] w (TestEnd w (bn && bm)) := by
  have HN := Lib.hid (fun w => NameB nm w bn hn hb)
  have hbx : Below w.heap.size w (box w 1 nm to q A n c A' n' c') := (Below.refl _ _).alloc (Nat.le_refl _) _
  have HBX := Lib.hid hbx; have H1 := Lib.hid hm
  have b0 := Blk.new w 51 #[.int .i64 1, strV nm, strV to, .int .i64 q, .slice A n c, .slice A' n' c']
  clear hbx hm hb
  go_enter Try.func59, Try.ntmps59
  go_wp2_with fail
  have HH : Hid (∀ w1, Below (box w 1 nm to q A n c A' n' c').heap.size (box w 1 nm to q A n c A' n' c').drew w1 → Blk w1 w.heap.size 51 #[.int .i64 1, strV nm, strV to, .int .i64 q, .slice A n c, .slice A' n' c']) := Lib.hid (fun w1 hb => (b0.drewN 1).below hb (by simp))
  have HT : Hid (∀ w1, Below (box w 1 nm to q A n c A' n' c').heap.size (box w 1 nm to q A n c A' n' c').drew w1 → Below w.heap.size w w1) := Lib.hid (fun w1 hb => (below_drewN HBX.out 1).trans (hb.mono HBX.out.size))
  have HBD : Hid (∀ d, Below w.heap.size w ((box w 1 nm to q A n c A' n' c').drewN d)) := Lib.hid (below_drewN HBX.out)
  generalize hW : box w 1 nm to q A n c A' n' c' = W at *
  unfold box at hW
  rw [hW] at b0 ⊢
  clear hW
  have x0 : W.cell? ⟨w.heap.size, 0, none⟩ = some (.int .i64 1) := b0.cell 0 rfl
  have x1 : W.cell? ⟨w.heap.size, 1, none⟩ = some (strV nm) := b0.cell 1 rfl
  have x2 : W.cell? ⟨w.heap.size, 2, none⟩ = some (strV to) := b0.cell 2 rfl
  have x3 : W.cell? ⟨w.heap.size, 3, none⟩ = some (.int .i64 q) := b0.cell 3 rfl
  have x4 : W.cell? ⟨w.heap.size, 4, none⟩ = some (.slice A n c) := b0.cell 4 rfl
  have x5 : W.cell? ⟨w.heap.size, 5, none⟩ = some (.slice A' n' c') := b0.cell 5 rfl
  clear b0
  have qi := fun w => index_may w 1 _ (by decide) rfl
  cases bn with
  | false =>
    have HN0 : Hid (∀ d : Nat, Calls Try.prog 30 #[strV nm] (W.drewN d) fun e w' => e = .returned (.bool false) ∧ ∃ m, w' = (W.drewN d).drewN m) := Lib.hid (fun d => (HN.out (W.drewN d)).mono (by rintro e w' ⟨rfl, rfl⟩; exact ⟨rfl, 0, rfl⟩))
    go_quiet (with_reducible exact Calls.quiet_of (HN0.out _))
    go_wp2
    go_ret
    exact ⟨rfl, HBD.out _⟩
  | true =>
    go_region_held3 (fun w' => w'.cell? ⟨w.heap.size, 0, none⟩ = some (.int .i64 1) ∧ w'.cell? ⟨w.heap.size, 1, none⟩ = some (strV nm) ∧ w'.cell? ⟨w.heap.size, 2, none⟩ = some (strV to) ∧ w'.cell? ⟨w.heap.size, 3, none⟩ = some (.int .i64 q) ∧ w'.cell? ⟨w.heap.size, 4, none⟩ = some (.slice A n c) ∧ w'.cell? ⟨w.heap.size, 5, none⟩ = some (.slice A' n' c'))
      (first | go_keep | (exact ⟨y0, y1, y2, y3, y4, y5⟩) | (exact ⟨z0, z1, z2, z3, z4, z5⟩))
      (first
        | (go_at_call 30; refine (HN.out W.drew).mono ?_; rintro e w1 ⟨rfl, rfl⟩)
        | (go_at_call 73; refine (forms W.drew).mono ?_; rintro e w1 ⟨rfl, hb1⟩; have b1 := HH.out w1 hb1; have hb01 := HT.out w1 hb1; have y0 : w1.cell? ⟨w.heap.size, 0, none⟩ = some (.int .i64 1) := b1.cell 0 rfl; have y1 : w1.cell? ⟨w.heap.size, 1, none⟩ = some (strV nm) := b1.cell 1 rfl; have y2 : w1.cell? ⟨w.heap.size, 2, none⟩ = some (strV to) := b1.cell 2 rfl; have y3 : w1.cell? ⟨w.heap.size, 3, none⟩ = some (.int .i64 q) := b1.cell 3 rfl; have y4 : w1.cell? ⟨w.heap.size, 4, none⟩ = some (.slice A n c) := b1.cell 4 rfl; have y5 : w1.cell? ⟨w.heap.size, 5, none⟩ = some (.slice A' n' c') := b1.cell 5 rfl; have HB1 := Lib.hid hb01; have B1 := Lib.hid b1; clear b1 hb1 hb01)
        | (go_at_call 88; refine (H1.out w1 HB1.out).mono ?_; rintro e w2 ⟨rfl, hb2⟩; have hb02 := below_via HB1.out hb2; have b2 := B1.out.below hb2 B1.out.lt; have z0 : w2.cell? ⟨w.heap.size, 0, none⟩ = some (.int .i64 1) := b2.cell 0 rfl; have z1 : w2.cell? ⟨w.heap.size, 1, none⟩ = some (strV nm) := b2.cell 1 rfl; have z2 : w2.cell? ⟨w.heap.size, 2, none⟩ = some (strV to) := b2.cell 2 rfl; have z3 : w2.cell? ⟨w.heap.size, 3, none⟩ = some (.int .i64 q) := b2.cell 3 rfl; have z4 : w2.cell? ⟨w.heap.size, 4, none⟩ = some (.slice A n c) := b2.cell 4 rfl; have z5 : w2.cell? ⟨w.heap.size, 5, none⟩ = some (.slice A' n' c') := b2.cell 5 rfl; have HB2 := Lib.hid hb02; clear b2 hb2 hb02))
    go_wp2
    go_ret
    exact ⟨ret_bool (by simp), HB2.out⟩

set_option maxHeartbeats 4000000 in
theorem MayP2 (A : Option Addr) (n c : Nat) (A' : Option Addr) (n' c' : Nat) (nm to : List UInt8) (q : Int) (w : World) (bn bm : Bool) (hn : nm.length ≤ maxLen) (hb : name nm = bn)
    (hm : ∀ w1, Below w.heap.size w w1 → Calls Try.prog 89 #[prV 2 nm to q A n c A' n' c'] w1 (TestEnd w1 bm)) :
    Calls Try.prog 59 #[prV 2 nm to q A n c A' n' c'] w (TestEnd w (bn && bm)) := by
  have HN := Lib.hid (fun w => NameB nm w bn hn hb)
  have hbx : Below w.heap.size w (box w 2 nm to q A n c A' n' c') := (Below.refl _ _).alloc (Nat.le_refl _) _
  have HBX := Lib.hid hbx; have H1 := Lib.hid hm
  have b0 := Blk.new w 51 #[.int .i64 2, strV nm, strV to, .int .i64 q, .slice A n c, .slice A' n' c']
  clear hbx hm hb
  go_enter Try.func59, Try.ntmps59
  go_wp2_with fail
  have HH : Hid (∀ w1, Below (box w 2 nm to q A n c A' n' c').heap.size (box w 2 nm to q A n c A' n' c').drew w1 → Blk w1 w.heap.size 51 #[.int .i64 2, strV nm, strV to, .int .i64 q, .slice A n c, .slice A' n' c']) := Lib.hid (fun w1 hb => (b0.drewN 1).below hb (by simp))
  have HT : Hid (∀ w1, Below (box w 2 nm to q A n c A' n' c').heap.size (box w 2 nm to q A n c A' n' c').drew w1 → Below w.heap.size w w1) := Lib.hid (fun w1 hb => (below_drewN HBX.out 1).trans (hb.mono HBX.out.size))
  have HBD : Hid (∀ d, Below w.heap.size w ((box w 2 nm to q A n c A' n' c').drewN d)) := Lib.hid (below_drewN HBX.out)
  generalize hW : box w 2 nm to q A n c A' n' c' = W at *
  unfold box at hW
  rw [hW] at b0 ⊢
  clear hW
  have x0 : W.cell? ⟨w.heap.size, 0, none⟩ = some (.int .i64 2) := b0.cell 0 rfl
  have x1 : W.cell? ⟨w.heap.size, 1, none⟩ = some (strV nm) := b0.cell 1 rfl
  have x2 : W.cell? ⟨w.heap.size, 2, none⟩ = some (strV to) := b0.cell 2 rfl
  have x3 : W.cell? ⟨w.heap.size, 3, none⟩ = some (.int .i64 q) := b0.cell 3 rfl
  have x4 : W.cell? ⟨w.heap.size, 4, none⟩ = some (.slice A n c) := b0.cell 4 rfl
  have x5 : W.cell? ⟨w.heap.size, 5, none⟩ = some (.slice A' n' c') := b0.cell 5 rfl
  clear b0
  have qi := fun w => index_may w 2 _ (by decide) rfl
  cases bn with
  | false =>
    have HN0 : Hid (∀ d : Nat, Calls Try.prog 30 #[strV nm] (W.drewN d) fun e w' => e = .returned (.bool false) ∧ ∃ m, w' = (W.drewN d).drewN m) := Lib.hid (fun d => (HN.out (W.drewN d)).mono (by rintro e w' ⟨rfl, rfl⟩; exact ⟨rfl, 0, rfl⟩))
    go_quiet (with_reducible exact Calls.quiet_of (HN0.out _))
    go_wp2
    go_ret
    exact ⟨rfl, HBD.out _⟩
  | true =>
    go_region_held3 (fun w' => w'.cell? ⟨w.heap.size, 0, none⟩ = some (.int .i64 2) ∧ w'.cell? ⟨w.heap.size, 1, none⟩ = some (strV nm) ∧ w'.cell? ⟨w.heap.size, 2, none⟩ = some (strV to) ∧ w'.cell? ⟨w.heap.size, 3, none⟩ = some (.int .i64 q) ∧ w'.cell? ⟨w.heap.size, 4, none⟩ = some (.slice A n c) ∧ w'.cell? ⟨w.heap.size, 5, none⟩ = some (.slice A' n' c'))
      (first | go_keep | (exact ⟨y0, y1, y2, y3, y4, y5⟩) | (exact ⟨z0, z1, z2, z3, z4, z5⟩))
      (first
        | (go_at_call 30; refine (HN.out W.drew).mono ?_; rintro e w1 ⟨rfl, rfl⟩)
        | (go_at_call 73; refine (forms W.drew).mono ?_; rintro e w1 ⟨rfl, hb1⟩; have b1 := HH.out w1 hb1; have hb01 := HT.out w1 hb1; have y0 : w1.cell? ⟨w.heap.size, 0, none⟩ = some (.int .i64 2) := b1.cell 0 rfl; have y1 : w1.cell? ⟨w.heap.size, 1, none⟩ = some (strV nm) := b1.cell 1 rfl; have y2 : w1.cell? ⟨w.heap.size, 2, none⟩ = some (strV to) := b1.cell 2 rfl; have y3 : w1.cell? ⟨w.heap.size, 3, none⟩ = some (.int .i64 q) := b1.cell 3 rfl; have y4 : w1.cell? ⟨w.heap.size, 4, none⟩ = some (.slice A n c) := b1.cell 4 rfl; have y5 : w1.cell? ⟨w.heap.size, 5, none⟩ = some (.slice A' n' c') := b1.cell 5 rfl; have HB1 := Lib.hid hb01; have B1 := Lib.hid b1; clear b1 hb1 hb01)
        | (go_at_call 89; refine (H1.out w1 HB1.out).mono ?_; rintro e w2 ⟨rfl, hb2⟩; have hb02 := below_via HB1.out hb2; have b2 := B1.out.below hb2 B1.out.lt; have z0 : w2.cell? ⟨w.heap.size, 0, none⟩ = some (.int .i64 2) := b2.cell 0 rfl; have z1 : w2.cell? ⟨w.heap.size, 1, none⟩ = some (strV nm) := b2.cell 1 rfl; have z2 : w2.cell? ⟨w.heap.size, 2, none⟩ = some (strV to) := b2.cell 2 rfl; have z3 : w2.cell? ⟨w.heap.size, 3, none⟩ = some (.int .i64 q) := b2.cell 3 rfl; have z4 : w2.cell? ⟨w.heap.size, 4, none⟩ = some (.slice A n c) := b2.cell 4 rfl; have z5 : w2.cell? ⟨w.heap.size, 5, none⟩ = some (.slice A' n' c') := b2.cell 5 rfl; have HB2 := Lib.hid hb02; clear b2 hb2 hb02))
    go_wp2
    go_ret
    exact ⟨ret_bool (by simp), HB2.out⟩

set_option maxHeartbeats 4000000 in
theorem MayP3 (A : Option Addr) (n c : Nat) (A' : Option Addr) (n' c' : Nat) (nm to : List UInt8) (q : Int) (w : World) (bn bm : Bool) (hn : nm.length ≤ maxLen) (hb : name nm = bn)
    (hm : ∀ w1, Below w.heap.size w w1 → Calls Try.prog 90 #[prV 3 nm to q A n c A' n' c'] w1 (TestEnd w1 bm)) :
    Calls Try.prog 59 #[prV 3 nm to q A n c A' n' c'] w (TestEnd w (bn && bm)) := by
  have HN := Lib.hid (fun w => NameB nm w bn hn hb)
  have hbx : Below w.heap.size w (box w 3 nm to q A n c A' n' c') := (Below.refl _ _).alloc (Nat.le_refl _) _
  have HBX := Lib.hid hbx; have H1 := Lib.hid hm
  have b0 := Blk.new w 51 #[.int .i64 3, strV nm, strV to, .int .i64 q, .slice A n c, .slice A' n' c']
  clear hbx hm hb
  go_enter Try.func59, Try.ntmps59
  go_wp2_with fail
  have HH : Hid (∀ w1, Below (box w 3 nm to q A n c A' n' c').heap.size (box w 3 nm to q A n c A' n' c').drew w1 → Blk w1 w.heap.size 51 #[.int .i64 3, strV nm, strV to, .int .i64 q, .slice A n c, .slice A' n' c']) := Lib.hid (fun w1 hb => (b0.drewN 1).below hb (by simp))
  have HT : Hid (∀ w1, Below (box w 3 nm to q A n c A' n' c').heap.size (box w 3 nm to q A n c A' n' c').drew w1 → Below w.heap.size w w1) := Lib.hid (fun w1 hb => (below_drewN HBX.out 1).trans (hb.mono HBX.out.size))
  have HBD : Hid (∀ d, Below w.heap.size w ((box w 3 nm to q A n c A' n' c').drewN d)) := Lib.hid (below_drewN HBX.out)
  generalize hW : box w 3 nm to q A n c A' n' c' = W at *
  unfold box at hW
  rw [hW] at b0 ⊢
  clear hW
  have x0 : W.cell? ⟨w.heap.size, 0, none⟩ = some (.int .i64 3) := b0.cell 0 rfl
  have x1 : W.cell? ⟨w.heap.size, 1, none⟩ = some (strV nm) := b0.cell 1 rfl
  have x2 : W.cell? ⟨w.heap.size, 2, none⟩ = some (strV to) := b0.cell 2 rfl
  have x3 : W.cell? ⟨w.heap.size, 3, none⟩ = some (.int .i64 q) := b0.cell 3 rfl
  have x4 : W.cell? ⟨w.heap.size, 4, none⟩ = some (.slice A n c) := b0.cell 4 rfl
  have x5 : W.cell? ⟨w.heap.size, 5, none⟩ = some (.slice A' n' c') := b0.cell 5 rfl
  clear b0
  have qi := fun w => index_may w 3 _ (by decide) rfl
  cases bn with
  | false =>
    have HN0 : Hid (∀ d : Nat, Calls Try.prog 30 #[strV nm] (W.drewN d) fun e w' => e = .returned (.bool false) ∧ ∃ m, w' = (W.drewN d).drewN m) := Lib.hid (fun d => (HN.out (W.drewN d)).mono (by rintro e w' ⟨rfl, rfl⟩; exact ⟨rfl, 0, rfl⟩))
    go_quiet (with_reducible exact Calls.quiet_of (HN0.out _))
    go_wp2
    go_ret
    exact ⟨rfl, HBD.out _⟩
  | true =>
    go_region_held3 (fun w' => w'.cell? ⟨w.heap.size, 0, none⟩ = some (.int .i64 3) ∧ w'.cell? ⟨w.heap.size, 1, none⟩ = some (strV nm) ∧ w'.cell? ⟨w.heap.size, 2, none⟩ = some (strV to) ∧ w'.cell? ⟨w.heap.size, 3, none⟩ = some (.int .i64 q) ∧ w'.cell? ⟨w.heap.size, 4, none⟩ = some (.slice A n c) ∧ w'.cell? ⟨w.heap.size, 5, none⟩ = some (.slice A' n' c'))
      (first | go_keep | (exact ⟨y0, y1, y2, y3, y4, y5⟩) | (exact ⟨z0, z1, z2, z3, z4, z5⟩))
      (first
        | (go_at_call 30; refine (HN.out W.drew).mono ?_; rintro e w1 ⟨rfl, rfl⟩)
        | (go_at_call 73; refine (forms W.drew).mono ?_; rintro e w1 ⟨rfl, hb1⟩; have b1 := HH.out w1 hb1; have hb01 := HT.out w1 hb1; have y0 : w1.cell? ⟨w.heap.size, 0, none⟩ = some (.int .i64 3) := b1.cell 0 rfl; have y1 : w1.cell? ⟨w.heap.size, 1, none⟩ = some (strV nm) := b1.cell 1 rfl; have y2 : w1.cell? ⟨w.heap.size, 2, none⟩ = some (strV to) := b1.cell 2 rfl; have y3 : w1.cell? ⟨w.heap.size, 3, none⟩ = some (.int .i64 q) := b1.cell 3 rfl; have y4 : w1.cell? ⟨w.heap.size, 4, none⟩ = some (.slice A n c) := b1.cell 4 rfl; have y5 : w1.cell? ⟨w.heap.size, 5, none⟩ = some (.slice A' n' c') := b1.cell 5 rfl; have HB1 := Lib.hid hb01; have B1 := Lib.hid b1; clear b1 hb1 hb01)
        | (go_at_call 90; refine (H1.out w1 HB1.out).mono ?_; rintro e w2 ⟨rfl, hb2⟩; have hb02 := below_via HB1.out hb2; have b2 := B1.out.below hb2 B1.out.lt; have z0 : w2.cell? ⟨w.heap.size, 0, none⟩ = some (.int .i64 3) := b2.cell 0 rfl; have z1 : w2.cell? ⟨w.heap.size, 1, none⟩ = some (strV nm) := b2.cell 1 rfl; have z2 : w2.cell? ⟨w.heap.size, 2, none⟩ = some (strV to) := b2.cell 2 rfl; have z3 : w2.cell? ⟨w.heap.size, 3, none⟩ = some (.int .i64 q) := b2.cell 3 rfl; have z4 : w2.cell? ⟨w.heap.size, 4, none⟩ = some (.slice A n c) := b2.cell 4 rfl; have z5 : w2.cell? ⟨w.heap.size, 5, none⟩ = some (.slice A' n' c') := b2.cell 5 rfl; have HB2 := Lib.hid hb02; clear b2 hb2 hb02))
    go_wp2
    go_ret
    exact ⟨ret_bool (by simp), HB2.out⟩

set_option maxHeartbeats 4000000 in
theorem MayP4 (A : Option Addr) (n c : Nat) (A' : Option Addr) (n' c' : Nat) (nm to : List UInt8) (q : Int) (w : World) (bn bm : Bool) (hn : nm.length ≤ maxLen) (hb : name nm = bn)
    (hm : ∀ w1, Below w.heap.size w w1 → Calls Try.prog 91 #[prV 4 nm to q A n c A' n' c'] w1 (TestEnd w1 bm)) :
    Calls Try.prog 59 #[prV 4 nm to q A n c A' n' c'] w (TestEnd w (bn && bm)) := by
  have HN := Lib.hid (fun w => NameB nm w bn hn hb)
  have hbx : Below w.heap.size w (box w 4 nm to q A n c A' n' c') := (Below.refl _ _).alloc (Nat.le_refl _) _
  have HBX := Lib.hid hbx; have H1 := Lib.hid hm
  have b0 := Blk.new w 51 #[.int .i64 4, strV nm, strV to, .int .i64 q, .slice A n c, .slice A' n' c']
  clear hbx hm hb
  go_enter Try.func59, Try.ntmps59
  go_wp2_with fail
  have HH : Hid (∀ w1, Below (box w 4 nm to q A n c A' n' c').heap.size (box w 4 nm to q A n c A' n' c').drew w1 → Blk w1 w.heap.size 51 #[.int .i64 4, strV nm, strV to, .int .i64 q, .slice A n c, .slice A' n' c']) := Lib.hid (fun w1 hb => (b0.drewN 1).below hb (by simp))
  have HT : Hid (∀ w1, Below (box w 4 nm to q A n c A' n' c').heap.size (box w 4 nm to q A n c A' n' c').drew w1 → Below w.heap.size w w1) := Lib.hid (fun w1 hb => (below_drewN HBX.out 1).trans (hb.mono HBX.out.size))
  have HBD : Hid (∀ d, Below w.heap.size w ((box w 4 nm to q A n c A' n' c').drewN d)) := Lib.hid (below_drewN HBX.out)
  generalize hW : box w 4 nm to q A n c A' n' c' = W at *
  unfold box at hW
  rw [hW] at b0 ⊢
  clear hW
  have x0 : W.cell? ⟨w.heap.size, 0, none⟩ = some (.int .i64 4) := b0.cell 0 rfl
  have x1 : W.cell? ⟨w.heap.size, 1, none⟩ = some (strV nm) := b0.cell 1 rfl
  have x2 : W.cell? ⟨w.heap.size, 2, none⟩ = some (strV to) := b0.cell 2 rfl
  have x3 : W.cell? ⟨w.heap.size, 3, none⟩ = some (.int .i64 q) := b0.cell 3 rfl
  have x4 : W.cell? ⟨w.heap.size, 4, none⟩ = some (.slice A n c) := b0.cell 4 rfl
  have x5 : W.cell? ⟨w.heap.size, 5, none⟩ = some (.slice A' n' c') := b0.cell 5 rfl
  clear b0
  have qi := fun w => index_may w 4 _ (by decide) rfl
  cases bn with
  | false =>
    have HN0 : Hid (∀ d : Nat, Calls Try.prog 30 #[strV nm] (W.drewN d) fun e w' => e = .returned (.bool false) ∧ ∃ m, w' = (W.drewN d).drewN m) := Lib.hid (fun d => (HN.out (W.drewN d)).mono (by rintro e w' ⟨rfl, rfl⟩; exact ⟨rfl, 0, rfl⟩))
    go_quiet (with_reducible exact Calls.quiet_of (HN0.out _))
    go_wp2
    go_ret
    exact ⟨rfl, HBD.out _⟩
  | true =>
    go_region_held3 (fun w' => w'.cell? ⟨w.heap.size, 0, none⟩ = some (.int .i64 4) ∧ w'.cell? ⟨w.heap.size, 1, none⟩ = some (strV nm) ∧ w'.cell? ⟨w.heap.size, 2, none⟩ = some (strV to) ∧ w'.cell? ⟨w.heap.size, 3, none⟩ = some (.int .i64 q) ∧ w'.cell? ⟨w.heap.size, 4, none⟩ = some (.slice A n c) ∧ w'.cell? ⟨w.heap.size, 5, none⟩ = some (.slice A' n' c'))
      (first | go_keep | (exact ⟨y0, y1, y2, y3, y4, y5⟩) | (exact ⟨z0, z1, z2, z3, z4, z5⟩))
      (first
        | (go_at_call 30; refine (HN.out W.drew).mono ?_; rintro e w1 ⟨rfl, rfl⟩)
        | (go_at_call 73; refine (forms W.drew).mono ?_; rintro e w1 ⟨rfl, hb1⟩; have b1 := HH.out w1 hb1; have hb01 := HT.out w1 hb1; have y0 : w1.cell? ⟨w.heap.size, 0, none⟩ = some (.int .i64 4) := b1.cell 0 rfl; have y1 : w1.cell? ⟨w.heap.size, 1, none⟩ = some (strV nm) := b1.cell 1 rfl; have y2 : w1.cell? ⟨w.heap.size, 2, none⟩ = some (strV to) := b1.cell 2 rfl; have y3 : w1.cell? ⟨w.heap.size, 3, none⟩ = some (.int .i64 q) := b1.cell 3 rfl; have y4 : w1.cell? ⟨w.heap.size, 4, none⟩ = some (.slice A n c) := b1.cell 4 rfl; have y5 : w1.cell? ⟨w.heap.size, 5, none⟩ = some (.slice A' n' c') := b1.cell 5 rfl; have HB1 := Lib.hid hb01; have B1 := Lib.hid b1; clear b1 hb1 hb01)
        | (go_at_call 91; refine (H1.out w1 HB1.out).mono ?_; rintro e w2 ⟨rfl, hb2⟩; have hb02 := below_via HB1.out hb2; have b2 := B1.out.below hb2 B1.out.lt; have z0 : w2.cell? ⟨w.heap.size, 0, none⟩ = some (.int .i64 4) := b2.cell 0 rfl; have z1 : w2.cell? ⟨w.heap.size, 1, none⟩ = some (strV nm) := b2.cell 1 rfl; have z2 : w2.cell? ⟨w.heap.size, 2, none⟩ = some (strV to) := b2.cell 2 rfl; have z3 : w2.cell? ⟨w.heap.size, 3, none⟩ = some (.int .i64 q) := b2.cell 3 rfl; have z4 : w2.cell? ⟨w.heap.size, 4, none⟩ = some (.slice A n c) := b2.cell 4 rfl; have z5 : w2.cell? ⟨w.heap.size, 5, none⟩ = some (.slice A' n' c') := b2.cell 5 rfl; have HB2 := Lib.hid hb02; clear b2 hb2 hb02))
    go_wp2
    go_ret
    exact ⟨ret_bool (by simp), HB2.out⟩

set_option maxHeartbeats 1000000 in
theorem MayNo (A : Option Addr) (n c : Nat) (A' : Option Addr) (n' c' : Nat) (k : Int) (nm to : List UInt8) (q : Int) (w : World) (hk : k < 0 ∨ 5 ≤ k) :
    Calls Try.prog 59 #[prV k nm to q A n c A' n' c'] w (TestEnd w false) := by
  have hbx : Below w.heap.size w (box w k nm to q A n c A' n' c') := (Below.refl _ _).alloc (Nat.le_refl _) _
  have HBX := Lib.hid hbx; clear hbx
  by_cases h0 : k < 0
  · go_enter Try.func59, Try.ntmps59
    go_wp2
    go_ret
    exact ⟨rfl, HBX.out⟩
  · have h5 : 5 ≤ k := by omega
    have h6 : ¬ k < 5 := by omega
    go_enter Try.func59, Try.ntmps59
    go_wp2
    go_ret
    exact ⟨rfl, HBX.out⟩

theorem MayP (A : Option Addr) (n c : Nat) (A' : Option Addr) (n' c' : Nat) (p : Ch) (w : World) (b : Bool) (hv : PV w w.heap.size A n c A' n' c' p) (hb : mayP p = b) :
    Calls Try.prog 59 #[prV p.k p.nm p.to p.h.pos A n c A' n' c'] w (TestEnd w b) := by
  obtain ⟨k, nm, to, h⟩ := p
  dsimp only at hv ⊢
  rcases kinds k with rfl | rfl | rfl | rfl | rfl | ⟨e0, e1, e2, e3, e4⟩
  · have h1 := MayP0 A n c A' n' c' nm to h.pos w (name nm) (decide (to = []) && noH h) hv.nm rfl (fun w1 hb1 => namesOne A n c A' n' c' 0 nm to h.pos h w1 _ rfl (hv_mv hv.h hb1) rfl)
    rw [← hb]; exact h1
  · have h1 := MayP1 A n c A' n' c' nm to h.pos w (name nm) (decide (to = []) && noH h) hv.nm rfl (fun w1 hb1 => namesOne A n c A' n' c' 1 nm to h.pos h w1 _ rfl (hv_mv hv.h hb1) rfl)
    rw [← hb]; exact h1
  · have h1 := MayP2 A n c A' n' c' nm to h.pos w (name nm) (name to && (decide (to ≠ nm) && noH h)) hv.nm rfl (fun w1 hb1 => namesTwo A n c A' n' c' 2 nm to h.pos h w1 _ hv.to rfl (hv_mv hv.h hb1) rfl)
    rw [← hb]; exact h1
  · have h1 := MayP3 A n c A' n' c' nm to h.pos w (name nm) (decide (to = []) && mayH h) hv.nm rfl (fun w1 hb1 => hasHunk A n c A' n' c' 3 nm to h.pos h w1 _ rfl (hv_mv hv.h hb1) rfl)
    rw [← hb]; exact h1
  · have h1 := MayP4 A n c A' n' c' nm to h.pos w (name nm) (decide (to = []) && (mayH h && decide (h.pos = 0))) hv.nm rfl (fun w1 hb1 => hasLines A n c A' n' c' 4 nm to h.pos h w1 _ rfl (hv_mv hv.h hb1) rfl)
    rw [← hb]; exact h1
  · rw [beq_eq_false_iff_ne] at e0 e1 e2 e3 e4
    have hf : mayP ⟨k, nm, to, h⟩ = false := by simp [mayP, e0, e1, e2, e3, e4]
    rw [← hb, hf]
    exact MayNo A n c A' n' c' k nm to h.pos w (by omega)

end Pr
end Go.Proofs.Ytbiiabfhngdeiaa
