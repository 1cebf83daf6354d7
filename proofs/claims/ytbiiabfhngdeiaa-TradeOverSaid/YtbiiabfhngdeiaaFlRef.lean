/-
  What the law's Few, and the document's own List, May and Apply of lists of changes return (walks).
-/
import Derived.Test.YtbiiabfhngdeiaaGF
import Derived.Test.YtbiiabfhngdeiaaGR
import Derived.Test.YtbiiabfhngdeiaaPsGrow
set_option maxRecDepth 100000
namespace Go.Proofs.Ytbiiabfhngdeiaa
open Go.RowKit
set_option linter.unusedVariables false
set_option linter.unusedSimpArgs false
namespace Fl
open Tx Df Sq Hk Tr Pr

/-- One of a list of changes. -/
theorem RdP.elem {W : World} {S : Nat → Prop} {A : Option Addr} {l : List Ch} (h : RdP W S A l) {k : Nat} (hk : k < l.length) :
    ∃ a x B n c D m d, A = some a ∧ S a.block ∧ l[k]? = some x ∧
      W.cell? (a.add (k * 6)) = some (.int .i64 x.k) ∧ W.cell? ⟨(a.add (k * 6)).block, (a.add (k * 6)).off + 1, none⟩ = some (strV x.nm) ∧ W.cell? ⟨(a.add (k * 6)).block, (a.add (k * 6)).off + 2, none⟩ = some (strV x.to) ∧
      W.cell? ⟨(a.add (k * 6)).block, (a.add (k * 6)).off + 3, none⟩ = some (.int .i64 x.h.pos) ∧ W.cell? ⟨(a.add (k * 6)).block, (a.add (k * 6)).off + 4, none⟩ = some (.slice B n c) ∧ W.cell? ⟨(a.add (k * 6)).block, (a.add (k * 6)).off + 5, none⟩ = some (.slice D m d) ∧
      PG W S B n c D m d x := by
  obtain ⟨a, e, hS, c0, c1, c2, c3, B, n, c, D, m, d, c4, c5, c6⟩ := h.at_ hk
  exact ⟨a, l[k], B, n, c, D, m, d, e, hS, List.getElem?_eq_getElem hk, c0, c1, c2, c3, c4, c5, c6⟩
theorem cell_b {W W' : World} {B : Nat} {p : Addr} {u : Value} (hb : Below B W W') (hc : W.cell? p = some u) (hp : p.block < B) : W'.cell? p = some u := (hb.cell hp).trans hc
theorem take_at {α : Type} {l : List α} {k : Nat} {x : α} (h : l[k]? = some x) : l.take (k + 1) = l.take k ++ [x] := by
  rw [List.take_add_one, h]; rfl
theorem drop_at {α : Type} {l : List α} {k : Nat} {x : α} (h : l[k]? = some x) : l.drop k = x :: l.drop (k + 1) := by
  obtain ⟨hk, e⟩ := List.getElem?_eq_some_iff.1 h
  rw [List.drop_eq_getElem_cons hk, e]

/-- Light, and at a place up to 2^19. -/
def okP (p : Ch) : Bool := lightP p && decide (p.h.pos ≤ 524288)
def fewP (l : List Ch) (most : Nat) : Bool := decide (l.length ≤ most) && l.all okP
theorem fewP_no {l : List Ch} {x : Ch} {k most : Nat} (hx : l[k]? = some x) (h : okP x = false) : fewP l most = false := by
  have : l.all okP = false := by
    rw [List.all_eq_false]
    exact ⟨x, List.mem_of_getElem? hx, by rw [h]; decide⟩
  unfold fewP
  rw [this, Bool.and_false]

set_option maxHeartbeats 2000000 in
theorem Few (A : Option Addr) (n c most : Nat) (l : List Ch) (w : World) (b : Bool) (hm : most ≤ 1000) (h : PrsArg w A n c l) (hb : fewP l most = b) :
    Calls Try.prog 37 #[.slice A n c, .int .i64 (most : Int)] w (BoolEnd w b) := by
  have HR := Lib.hid h.rd; have HN := Lib.hid h.len
  have HB := Lib.hid hb.symm
  have hle := h.le
  clear h hb
  unfold maxLen at hle
  go_enter Try.func37, Try.ntmps37
  by_cases h0 : (most : Int) < (n : Int)
  · go_wp2
    go_ret
    exact ⟨ret_bool (by rw [HB.out]; unfold fewP; rw [HN.out, decide_eq_false (by omega)]; rfl), Below.refl _ _⟩
  · go_wp2
    go_loopw [5] (fun i wr => ∃ k : Nat, k ≤ n ∧ i = .int .i64 (k : Int) ∧ (l.take k).all okP = true ∧ Below w.heap.size w wr) (fun i _ => n - (intOf i).toNat)
    case atStart => exact ⟨0, Nat.zero_le _, rfl, rfl, Below.refl _ _⟩
    case round =>
      obtain ⟨k, hk, rfl, hall, hbw⟩ := hrel
      have HBW := Lib.hid hbw; have HAL := Lib.hid hall; clear hbw hall
      by_cases hlt : k < n
      · have hki : (k : Int) < (n : Int) := by omega
        obtain ⟨a, x, B, i, j, D, m, d, rfl, hS, hx, c0, c1, c2, c3, c4, c5, c6⟩ := ((HR.out.mv HBW.out).elem (k := k) (by rw [HN.out]; exact hlt))
        have HX := Lib.hid hx; have HP := Lib.hid c6; clear hx c6 hS
        go_wp2_with fail
        obtain ⟨bl, hbl⟩ : ∃ b, lightP x = b := ⟨_, rfl⟩
        refine (LightP B i j D m d _ x _ bl (Nat.le_refl _) HP.out.pv hbl).mono ?_
        rintro e w2 ⟨rfl, hb2⟩
        have HBL := Lib.hid hbl; clear hbl
        have hbw2 := below_mv HBW.out hb2
        have HBW2 := Lib.hid hbw2; clear hbw2
        have c3' : w2.cell? ⟨(a.add (k * 6)).block, (a.add (k * 6)).off + 3, none⟩ = some (.int .i64 x.h.pos) := cell_to (alike_below hb2) (World.block_lt_of_cell? _ _ c3) c3
        clear c0 c1 c2 c3 c4 c5 hb2
        cases bl with
        | false =>
          go_wp2
          go_ret
          exact ⟨ret_bool (by rw [HB.out, fewP_no HX.out (by unfold okP; rw [HBL.out]; rfl)]), HBW2.out⟩
        | true =>
        by_cases hp : 524288 < x.h.pos
        · go_wp2
          go_ret
          exact ⟨ret_bool (by rw [HB.out, fewP_no HX.out (by unfold okP; rw [HBL.out, decide_eq_false (by omega)]; rfl)]), HBW2.out⟩
        · go_wp2_with fail
          refine ⟨⟨k + 1, by omega, by go_num, ?_, HBW2.out⟩, by simp [intOf]; omega⟩
          rw [take_at HX.out, List.all_append, HAL.out]
          simp [okP, HBL.out]
          omega
      · go_wp2
        go_ret
        refine ⟨ret_bool ?_, HBW.out⟩
        have ek : l.take k = l := List.take_of_length_le (by rw [HN.out]; omega)
        have hall := HAL.out
        rw [ek] at hall
        rw [HB.out]
        unfold fewP
        rw [hall, HN.out, decide_eq_true (by omega)]
        rfl

/-- Two lists are the same. -/
def listP : List Ch → List Ch → Bool
  | [], [] => true
  | x :: l, y :: u => sameP x y && listP l u
  | _, _ => false
theorem listP_iff : ∀ {l u : List Ch}, listP l u = true ↔ l = u
  | [], [] => by simp [listP]
  | [], y :: u => by simp [listP]
  | x :: l, [] => by simp [listP]
  | x :: l, y :: u => by rw [listP, Bool.and_eq_true, sameP_iff, listP_iff]; simp
theorem listP_self (l : List Ch) : listP l l = true := listP_iff.2 rfl
theorem listP_no {l u : List Ch} (h : l ≠ u) : listP l u = false := by
  cases hb : listP l u with
  | false => rfl
  | true => exact absurd (listP_iff.1 hb) h
theorem sameL_take {l u : List Ch} {k : Nat} {x y : Ch} (h : l.take k = u.take k) (hx : l[k]? = some x) (hy : u[k]? = some y) : (sameP x y = true → l.take (k + 1) = u.take (k + 1)) ∧ (sameP x y = false → l ≠ u) := by
  constructor
  · intro e
    rw [take_at hx, take_at hy, h, sameP_iff.1 e]
  · intro e hl
    subst hl
    rw [hx] at hy
    injection hy with hy
    subst hy
    rw [sameP_self] at e
    cases e

set_option maxHeartbeats 2000000 in
theorem refListL (A : Option Addr) (n c : Nat) (A' : Option Addr) (n' c' : Nat) (l u : List Ch) (w : World) (b : Bool) (hn : l.length = n) (hn' : u.length = n') (hle : n ≤ 20000) (hR : RdP w (· < w.heap.size) A l) (hR' : RdP w (· < w.heap.size) A' u) (hb : listP l u = b) :
    Calls Try.prog 26 #[.slice A n c, .slice A' n' c'] w (BoolEnd w b) := by
  have HR := Lib.hid hR; have HR' := Lib.hid hR'; have HN := Lib.hid hn; have HN' := Lib.hid hn'
  have HB := Lib.hid hb.symm
  clear hR hR' hn hn' hb
  go_enter Try.func26, Try.ntmps26
  by_cases h0 : n = n'
  · subst h0
    go_wp2
    go_loopw [5] (fun i wr => ∃ k : Nat, k ≤ n ∧ i = .int .i64 (k : Int) ∧ l.take k = u.take k ∧ Below w.heap.size w wr) (fun i _ => n - (intOf i).toNat)
    case atStart => exact ⟨0, Nat.zero_le _, rfl, rfl, Below.refl _ _⟩
    case round =>
      obtain ⟨k, hk, rfl, hall, hbw⟩ := hrel
      have HBW := Lib.hid hbw; have HAL := Lib.hid hall; clear hbw hall
      by_cases hlt : k < n
      · have hki : (k : Int) < (n : Int) := by omega
        obtain ⟨a, x, B, i, j, D, m, d, rfl, hS, hx, c0, c1, c2, c3, c4, c5, c6⟩ := ((HR.out.mv HBW.out).elem (k := k) (by rw [HN.out]; exact hlt))
        obtain ⟨a', y, B', i', j', D', m', d', rfl, hS', hy, g0, g1, g2, g3, g4, g5, g6⟩ := ((HR'.out.mv HBW.out).elem (k := k) (by rw [HN'.out]; exact hlt))
        have HX := Lib.hid hx; have HP := Lib.hid c6; clear hx c6
        have HY := Lib.hid hy; have HQ := Lib.hid g6; clear hy g6
        obtain ⟨bl, hbl⟩ : ∃ b, sameP x y = b := ⟨_, rfl⟩
        have HSA := Lib.hid hS; have HSB := Lib.hid hS'
        have HK : Hid (∀ W, Below wr.heap.size wr W → W.cell? (a.add (k * 6)) = some (.int .i64 x.k) ∧ W.cell? ⟨(a.add (k * 6)).block, (a.add (k * 6)).off + 1, none⟩ = some (strV x.nm) ∧ W.cell? ⟨(a.add (k * 6)).block, (a.add (k * 6)).off + 2, none⟩ = some (strV x.to) ∧ W.cell? ⟨(a.add (k * 6)).block, (a.add (k * 6)).off + 3, none⟩ = some (.int .i64 x.h.pos) ∧ W.cell? ⟨(a.add (k * 6)).block, (a.add (k * 6)).off + 4, none⟩ = some (.slice B i j) ∧ W.cell? ⟨(a.add (k * 6)).block, (a.add (k * 6)).off + 5, none⟩ = some (.slice D m d) ∧ W.cell? (a'.add (k * 6)) = some (.int .i64 y.k) ∧ W.cell? ⟨(a'.add (k * 6)).block, (a'.add (k * 6)).off + 1, none⟩ = some (strV y.nm) ∧ W.cell? ⟨(a'.add (k * 6)).block, (a'.add (k * 6)).off + 2, none⟩ = some (strV y.to) ∧ W.cell? ⟨(a'.add (k * 6)).block, (a'.add (k * 6)).off + 3, none⟩ = some (.int .i64 y.h.pos) ∧ W.cell? ⟨(a'.add (k * 6)).block, (a'.add (k * 6)).off + 4, none⟩ = some (.slice B' i' j') ∧ W.cell? ⟨(a'.add (k * 6)).block, (a'.add (k * 6)).off + 5, none⟩ = some (.slice D' m' d')) := Lib.hid (fun W hb => by
          have l0 : (a.add (k * 6)).block < wr.heap.size := by rw [add_block]; exact HSA.out
          have l1 : (a'.add (k * 6)).block < wr.heap.size := by rw [add_block]; exact HSB.out
          exact ⟨cell_b hb c0 l0, cell_b hb c1 l0, cell_b hb c2 l0, cell_b hb c3 l0, cell_b hb c4 l0, cell_b hb c5 l0, cell_b hb g0 l1, cell_b hb g1 l1, cell_b hb g2 l1, cell_b hb g3 l1, cell_b hb g4 l1, cell_b hb g5 l1⟩)
        have C1 := Lib.hid (refSameP B i j D m d B' i' j' D' m' d' _ x y wr.drew bl (Nat.le_refl _) (HP.out.pv.drewN 1) (HQ.out.pv.drewN 1) hbl)
        have HD := Lib.hid (below_drewN (Below.refl wr.heap.size wr) 1)
        clear hS hS'
        go_wp2_with fail
        go_region_held3 (fun W => W.cell? (a.add (k * 6)) = some (.int .i64 x.k) ∧ W.cell? ⟨(a.add (k * 6)).block, (a.add (k * 6)).off + 1, none⟩ = some (strV x.nm) ∧ W.cell? ⟨(a.add (k * 6)).block, (a.add (k * 6)).off + 2, none⟩ = some (strV x.to) ∧ W.cell? ⟨(a.add (k * 6)).block, (a.add (k * 6)).off + 3, none⟩ = some (.int .i64 x.h.pos) ∧ W.cell? ⟨(a.add (k * 6)).block, (a.add (k * 6)).off + 4, none⟩ = some (.slice B i j) ∧ W.cell? ⟨(a.add (k * 6)).block, (a.add (k * 6)).off + 5, none⟩ = some (.slice D m d) ∧ W.cell? (a'.add (k * 6)) = some (.int .i64 y.k) ∧ W.cell? ⟨(a'.add (k * 6)).block, (a'.add (k * 6)).off + 1, none⟩ = some (strV y.nm) ∧ W.cell? ⟨(a'.add (k * 6)).block, (a'.add (k * 6)).off + 2, none⟩ = some (strV y.to) ∧ W.cell? ⟨(a'.add (k * 6)).block, (a'.add (k * 6)).off + 3, none⟩ = some (.int .i64 y.h.pos) ∧ W.cell? ⟨(a'.add (k * 6)).block, (a'.add (k * 6)).off + 4, none⟩ = some (.slice B' i' j') ∧ W.cell? ⟨(a'.add (k * 6)).block, (a'.add (k * 6)).off + 5, none⟩ = some (.slice D' m' d'))
          (first | go_keep | (exact hz))
          (first | (go_at_call 42; (with_reducible refine C1.out.mono ?_); rintro e w2 ⟨rfl, hb⟩; have hb2 := below_mv HD.out hb; have hz := HK.out w2 hb2; clear hb))
        clear hz
        have HBL := Lib.hid (sameL_take HAL.out HX.out HY.out)
        have hbw2 := below_mv HBW.out hb2
        have HBW2 := Lib.hid hbw2; clear hbw2 c0 c1 c2 c3 c4 c5 g0 g1 g2 g3 g4 g5 hb2
        rw [hbl] at HBL
        clear hbl
        cases bl with
        | false =>
          go_wp2
          go_ret
          exact ⟨ret_bool (by rw [HB.out, listP_no (HBL.out.2 (by simp))]), HBW2.out⟩
        | true =>
          go_wp2_with fail
          exact ⟨⟨k + 1, by omega, by go_num, HBL.out.1 (by simp), HBW2.out⟩, by simp [intOf]; omega⟩
      · go_wp2
        go_ret
        refine ⟨ret_bool ?_, HBW.out⟩
        have h1 := HAL.out
        rw [List.take_of_length_le (by rw [HN.out]; omega), List.take_of_length_le (by rw [HN'.out]; omega)] at h1
        rw [HB.out, listP_iff.2 h1]
  · have e0 : ((n : Int) == (n' : Int)) = false := by rw [beq_eq_false_iff_ne]; omega
    go_wp2
    go_ret
    exact ⟨ret_bool (by rw [HB.out, listP_no (fun e => h0 (by rw [← HN.out, ← HN'.out, e]))]), Below.refl _ _⟩

end Fl
end Go.Proofs.Ytbiiabfhngdeiaa
