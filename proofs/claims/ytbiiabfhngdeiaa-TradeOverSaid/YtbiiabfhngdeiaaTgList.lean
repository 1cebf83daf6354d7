/-
  What the document's own List of layer 14 returns of two lists that are the same (walk).
-/
import Derived.Test.YtbiiabfhngdeiaaTgLaw
import Derived.Test.YtbiiabfhngdeiaaPnRefSame
import Derived.Deep.RegionHeld3
set_option maxRecDepth 100000
namespace Go.Proofs.Ytbiiabfhngdeiaa
open Go.RowKit
set_option linter.unusedVariables false
set_option linter.unusedSimpArgs false
namespace Tg
open Tx Df Sq Hk Tr Pr Fl Pn

set_option maxHeartbeats 2000000 in
theorem refListN (A : Option Addr) (n c : Nat) (A' : Option Addr) (c' : Nat) (l : List Nm) (w : World) (hn : l.length = n) (hle : n ≤ 1000000) (hall : ∀ p ∈ l, Lt p.l ∧ p.l.length ≤ 10 ∧ p.deps.length ≤ 100) (hR : RdN w w.heap.size A l) (hR' : RdN w w.heap.size A' l) :
    Calls Try.prog 15 #[.slice A n c, .slice A' n c'] w (BoolEnd w true) := by
  have HN := Lib.hid hn; have HR := Lib.hid hR; have HR' := Lib.hid hR'; have HA := Lib.hid hall
  clear hn hR hR' hall
  go_enter Try.func15, Try.ntmps15
  go_wp2_with fail
  go_loopw [5] (fun i wr => ∃ k : Nat, k ≤ n ∧ i = .int .i64 (k : Int) ∧ Below w.heap.size w wr) (fun i _ => n - (intOf i).toNat)
  case atStart => exact ⟨0, Nat.zero_le _, rfl, Below.refl _ _⟩
  case round =>
    obtain ⟨k, hk, rfl, hbw⟩ := hrel
    have HBW := Lib.hid hbw; clear hbw
    by_cases hlt : k < n
    · have hki : (k : Int) < (n : Int) := by omega
      obtain ⟨a, x, D, i, j, E, m, d, rfl, hS, hx, c0, c1, c2, c3, c4, c5⟩ := ((HR.out.mv HBW.out).elem (k := k) (by rw [HN.out]; exact hlt))
      obtain ⟨a', x', D', i', j', E', m', d', rfl, hS', hx', g0, g1, g2, g3, g4, g5⟩ := ((HR'.out.mv HBW.out).elem (k := k) (by rw [HN.out]; exact hlt))
      obtain rfl : x = x' := by rw [hx] at hx'; exact Option.some.inj hx'
      have HX := Lib.hid (HA.out x (List.mem_of_getElem? hx)); have HP := Lib.hid c5; have HP' := Lib.hid g5
      clear hx hx' c5 g5
      have hba : (a.add (k * 5)).block < wr.heap.size := by rw [add_block]; exact hS
      have hba' : (a'.add (k * 5)).block < wr.heap.size := by rw [add_block]; exact hS'
      have HC : Hid (∀ W, Below wr.heap.size wr W → W.cell? (a.add (k * 5)) = some (.int .i64 x.id.1) ∧ W.cell? (⟨(a.add (k * 5)).block, (a.add (k * 5)).off + 1, none⟩) = some (.int .i64 x.id.2) ∧ W.cell? (⟨(a.add (k * 5)).block, (a.add (k * 5)).off + 2, none⟩) = some (.slice D i j) ∧ W.cell? (⟨(a.add (k * 5)).block, (a.add (k * 5)).off + 3, none⟩) = some (strV x.txt) ∧ W.cell? (⟨(a.add (k * 5)).block, (a.add (k * 5)).off + 4, none⟩) = some (.slice E m d) ∧ W.cell? (a'.add (k * 5)) = some (.int .i64 x.id.1) ∧ W.cell? (⟨(a'.add (k * 5)).block, (a'.add (k * 5)).off + 1, none⟩) = some (.int .i64 x.id.2) ∧ W.cell? (⟨(a'.add (k * 5)).block, (a'.add (k * 5)).off + 2, none⟩) = some (.slice D' i' j') ∧ W.cell? (⟨(a'.add (k * 5)).block, (a'.add (k * 5)).off + 3, none⟩) = some (strV x.txt) ∧ W.cell? (⟨(a'.add (k * 5)).block, (a'.add (k * 5)).off + 4, none⟩) = some (.slice E' m' d')) := Lib.hid (fun W hb => ⟨cellB c0 hb hba, cellB c1 hb hba, cellB c2 hb hba, cellB c3 hb hba, cellB c4 hb hba, cellB g0 hb hba', cellB g1 hb hba', cellB g2 hb hba', cellB g3 hb hba', cellB g4 hb hba'⟩)
      have HD := Lib.hid (show Below wr.heap.size wr wr.drew from below_drewN (Below.refl _ _) 1)
      have HKD := Lib.hid (HC.out wr.drew HD.out)
      have PX : Hid (∀ W, Below wr.heap.size wr W → Calls Try.prog 12 #[nmV x.id D i j x.txt E m d, nmV x.id D' i' j' x.txt E' m' d'] W (BoolEnd W true)) := Lib.hid (fun W hb => refSameN D i j E m d D' i' j' E' m' d' x x W true (HP.out.mv hb) (HP'.out.mv hb) (by have h1 := HP.out.l; have := HX.out; omega) (by have h1 := HP.out.dl; have := HX.out; omega) (sameN_self _))
      go_upto_region 6 with fail
      go_region_held3 (fun W => W.cell? (a.add (k * 5)) = some (.int .i64 x.id.1) ∧ W.cell? (⟨(a.add (k * 5)).block, (a.add (k * 5)).off + 1, none⟩) = some (.int .i64 x.id.2) ∧ W.cell? (⟨(a.add (k * 5)).block, (a.add (k * 5)).off + 2, none⟩) = some (.slice D i j) ∧ W.cell? (⟨(a.add (k * 5)).block, (a.add (k * 5)).off + 3, none⟩) = some (strV x.txt) ∧ W.cell? (⟨(a.add (k * 5)).block, (a.add (k * 5)).off + 4, none⟩) = some (.slice E m d) ∧ W.cell? (a'.add (k * 5)) = some (.int .i64 x.id.1) ∧ W.cell? (⟨(a'.add (k * 5)).block, (a'.add (k * 5)).off + 1, none⟩) = some (.int .i64 x.id.2) ∧ W.cell? (⟨(a'.add (k * 5)).block, (a'.add (k * 5)).off + 2, none⟩) = some (.slice D' i' j') ∧ W.cell? (⟨(a'.add (k * 5)).block, (a'.add (k * 5)).off + 3, none⟩) = some (strV x.txt) ∧ W.cell? (⟨(a'.add (k * 5)).block, (a'.add (k * 5)).off + 4, none⟩) = some (.slice E' m' d'))
        (first | (with_reducible exact HKD.out) | (with_reducible exact hS1))
        (first
          | (go_at_call 12; (with_reducible refine (PX.out wr.drew HD.out).mono ?_); rintro e w2 ⟨rfl, hb2⟩; have hbu := HD.out.trans (hb2.mono HD.out.size); have hS1 := HC.out w2 hbu; have HBW2 := Lib.hid (below_mv HBW.out hbu); clear hb2 hbu))
      clear hS1 HKD HC PX HD c0 c1 c2 c3 c4 g0 g1 g2 g3 g4
      go_wp2_with fail
      exact ⟨⟨k + 1, by omega, by go_num, HBW2.out⟩, by simp [intOf]; omega⟩
    · go_wp2
      go_ret
      exact ⟨rfl, HBW.out⟩

/-- A light patch of few changes. -/
abbrev Lit (p : Nm) : Prop := Lt p.l ∧ p.l.length ≤ 10 ∧ p.deps.length ≤ 100
theorem pass_lit {p q x y : Nm} (h : passN p q = some (x, y)) (hp : Lit p) (hq : Lit q) : Lit x ∧ Lit y := out_few (bo := true) (by rw [h]; rfl) (by rw [h]; rfl) hp hq
theorem over_lit {l m : List Nm} {q x : Nm} {bo : Bool} (ho : outO (overN l q) = (x, m)) (hs : (overN l q).isSome = bo) (hl : ∀ p ∈ l, Lit p) (hq : Lit q) : Lit x ∧ ∀ y ∈ m, Lit y := by
  cases h : overN l q with
  | none =>
    rw [h] at ho
    injection ho with h1 h2
    subst h1 h2
    exact ⟨⟨noN_lt, Nat.zero_le _, Nat.zero_le _⟩, fun y hy => by cases hy⟩
  | some z =>
    rw [h] at ho
    have e : overN l q = some (x, m) := by rw [h]; exact congrArg some ho
    exact one_all (Q := Lit) passN (fun h hp hq => pass_lit h hp hq) e hl hq
theorem over_all {l : List Nm} (hl : ∀ p ∈ l, Lit p) : ∀ p ∈ l, Lt p.l ∧ p.l.length ≤ 1000 ∧ p.deps.length ≤ 100000 := fun p hp => ⟨(hl p hp).1, by have := (hl p hp).2.1; omega, by have := (hl p hp).2.2; omega⟩

theorem over_short {l m : List Nm} {q x : Nm} (ho : outO (overN l q) = (x, m)) : m.length ≤ l.length := by
  cases h : overN l q with
  | none =>
    rw [h] at ho
    injection ho with h1 h2
    subst h2
    exact Nat.zero_le _
  | some z =>
    rw [h] at ho
    have e : overN l q = some (x, m) := by rw [h]; exact congrArg some ho
    exact Nat.le_of_eq (overN_len e)

end Tg
end Go.Proofs.Ytbiiabfhngdeiaa
