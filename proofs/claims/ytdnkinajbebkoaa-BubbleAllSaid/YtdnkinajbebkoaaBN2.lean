/-
  Words and contracts, joined: FlRef QRange FlKeep TgMem TgRow PnLeaf FlSteps SwRef PsRef PsCode FlRef2 FlLeaf PnSame TgLeaf TgWith FlBack FlMine FlWords.
-/
import Derived.RangeFuncNested
import Derived.RangeFuncCalls
import Derived.RangeFuncLeaves
import Derived.RangeFuncBox
import Derived.Deep.Quiet
import Derived.StillTail
import Derived.Deep.RegionHeld
import Derived.OrdersIn
import Derived.TacticsIn
import Derived.Laws.StructEq
import Derived.BigQuiet
import Derived.Deep.Cut
import Derived.Deep.RegionHeld3
import Derived.WalkMore
import Derived.Deep.RegionWith
import Derived.Deep.RegionLaw
import Derived.Test.YtdnkinajbebkoaaRows
import Derived.RangeFuncBound
import Derived.Shelf.Abstract
import Derived.Shelf.RegionOpen
import Derived.WalkKit
import Derived.OwnWalkIn
import Derived.TacticsInMore
import Derived.LoopNIn
import Derived.LoopIn
import Derived.Maps.AppendAt
import Derived.WalkSpells
import Derived.WalkLawsBesides
import Derived.Lib.Hide
import Derived.Test.YtdnkinajbebkoaaBN1
set_option maxRecDepth 100000
namespace Go.Proofs.Ytdnkinajbebkoaa
open Go.RowKit
set_option linter.unusedVariables false
set_option linter.unusedSimpArgs false
namespace Fl
open Tx Df Sq Hk Tr Pr

/-- One of a list of changes. -/
theorem RdP.elem {W : World} {S : Nat → Prop} {A : Option Addr} {l : List Ch} (h : RdP W S A l) {k : Nat} (hk : k < l.length) :
    ∃ a x B n c D m d, A = some a ∧ S a.block ∧ l[k]? = some x ∧
      W.cell? (a.add (k * 6)) = some (.int .i64 x.k) ∧ W.cell? ⟨(a.add (k * 6)).block, (a.add (k * 6)).off + 1, none⟩ = some (strV x.nm) ∧ W.cell? ⟨(a.add (k * 6)).block, (a.add (k * 6)).off + 2, none⟩ = some (strV x.to) ∧
      W.cell? ⟨(a.add (k * 6)).block, (a.add (k * 6)).off + 3, none⟩ = some (.int .i64 x.h.pos) ∧ W.cell? ⟨(a.add (k * 6)).block, (a.add (k * 6)).off + 4, none⟩ = some (.slice B n c) ∧ W.cell? ⟨(a.add (k * 6)).block, (a.add (k * 6)).off + 5, none⟩ = some (.slice D m d) ∧
      PG W S B n c D m d x := by
  obtain ⟨a, e, hS, c0, c1, c2, c3, B, n, c, D, m, d, c4, c5, c6⟩ := h.at_ hk
  exact ⟨a, l[k], B, n, c, D, m, d, e, hS, List.getElem?_eq_getElem hk, c0, c1, c2, c3, c4, c5, c6⟩
theorem cell_b {W W' : World} {B : Nat} {p : Addr} {u : Value} (hb : Below B W W') (hc : W.cell? p = some u) (hp : p.block < B) : W'.cell? p = some u := (hb.cell hp).trans hc
theorem take_at {α : Type} {l : List α} {k : Nat} {x : α} (h : l[k]? = some x) : l.take (k + 1) = l.take k ++ [x] := by
  rw [List.take_add_one, h]; rfl
theorem drop_at {α : Type} {l : List α} {k : Nat} {x : α} (h : l[k]? = some x) : l.drop k = x :: l.drop (k + 1) := by
  obtain ⟨hk, e⟩ := List.getElem?_eq_some_iff.1 h
  rw [List.drop_eq_getElem_cons hk, e]

/-- Light, and at a place up to 2^19. -/
def okP (p : Ch) : Bool := lightP p && decide (p.h.pos ≤ 524288)
def fewP (l : List Ch) (most : Nat) : Bool := decide (l.length ≤ most) && l.all okP
theorem fewP_no {l : List Ch} {x : Ch} {k most : Nat} (hx : l[k]? = some x) (h : okP x = false) : fewP l most = false := by
  have : l.all okP = false := by
    rw [List.all_eq_false]
    exact ⟨x, List.mem_of_getElem? hx, by rw [h]; decide⟩
  unfold fewP
  rw [this, Bool.and_false]

set_option maxHeartbeats 2000000 in
theorem Few (A : Option Addr) (n c most : Nat) (l : List Ch) (w : World) (b : Bool) (hm : most ≤ 1000) (h : PrsArg w A n c l) (hb : fewP l most = b) :
    Calls Try.prog 51 #[.slice A n c, .int .i64 (most : Int)] w (BoolEnd w b) := by
  have HR := Lib.hid h.rd; have HN := Lib.hid h.len
  have HB := Lib.hid hb.symm
  have hle := h.le
  clear h hb
  unfold maxLen at hle
  go_enter Try.func51, Try.ntmps51
  by_cases h0 : (most : Int) < (n : Int)
  · go_wp2
    go_ret
    exact ⟨ret_bool (by rw [HB.out]; unfold fewP; rw [HN.out, decide_eq_false (by omega)]; rfl), Below.refl _ _⟩
  · go_wp2
    go_loopw [5] (fun i wr => ∃ k : Nat, k ≤ n ∧ i = .int .i64 (k : Int) ∧ (l.take k).all okP = true ∧ Below w.heap.size w wr) (fun i _ => n - (intOf i).toNat)
    case atStart => exact ⟨0, Nat.zero_le _, rfl, rfl, Below.refl _ _⟩
    case round =>
      obtain ⟨k, hk, rfl, hall, hbw⟩ := hrel
      have HBW := Lib.hid hbw; have HAL := Lib.hid hall; clear hbw hall
      by_cases hlt : k < n
      · have hki : (k : Int) < (n : Int) := by omega
        obtain ⟨a, x, B, i, j, D, m, d, rfl, hS, hx, c0, c1, c2, c3, c4, c5, c6⟩ := ((HR.out.mv HBW.out).elem (k := k) (by rw [HN.out]; exact hlt))
        have HX := Lib.hid hx; have HP := Lib.hid c6; clear hx c6 hS
        go_wp2_with fail
        obtain ⟨bl, hbl⟩ : ∃ b, lightP x = b := ⟨_, rfl⟩
        refine (LightP B i j D m d _ x _ bl (Nat.le_refl _) HP.out.pv hbl).mono ?_
        rintro e w2 ⟨rfl, hb2⟩
        have HBL := Lib.hid hbl; clear hbl
        have hbw2 := below_mv HBW.out hb2
        have HBW2 := Lib.hid hbw2; clear hbw2
        have c3' : w2.cell? ⟨(a.add (k * 6)).block, (a.add (k * 6)).off + 3, none⟩ = some (.int .i64 x.h.pos) := cell_to (alike_below hb2) (World.block_lt_of_cell? _ _ c3) c3
        clear c0 c1 c2 c3 c4 c5 hb2
        cases bl with
        | false =>
          go_wp2
          go_ret
          exact ⟨ret_bool (by rw [HB.out, fewP_no HX.out (by unfold okP; rw [HBL.out]; rfl)]), HBW2.out⟩
        | true =>
        by_cases hp : 524288 < x.h.pos
        · go_wp2
          go_ret
          exact ⟨ret_bool (by rw [HB.out, fewP_no HX.out (by unfold okP; rw [HBL.out, decide_eq_false (by omega)]; rfl)]), HBW2.out⟩
        · go_wp2_with fail
          refine ⟨⟨k + 1, by omega, by go_num, ?_, HBW2.out⟩, by simp [intOf]; omega⟩
          rw [take_at HX.out, List.all_append, HAL.out]
          simp [okP, HBL.out]
          omega
      · go_wp2
        go_ret
        refine ⟨ret_bool ?_, HBW.out⟩
        have ek : l.take k = l := List.take_of_length_le (by rw [HN.out]; omega)
        have hall := HAL.out
        rw [ek] at hall
        rw [HB.out]
        unfold fewP
        rw [hall, HN.out, decide_eq_true (by omega)]
        rfl

/-- Two lists are the same. -/
def listP : List Ch → List Ch → Bool
  | [], [] => true
  | x :: l, y :: u => sameP x y && listP l u
  | _, _ => false
theorem listP_iff : ∀ {l u : List Ch}, listP l u = true ↔ l = u
  | [], [] => by simp [listP]
  | [], y :: u => by simp [listP]
  | x :: l, [] => by simp [listP]
  | x :: l, y :: u => by rw [listP, Bool.and_eq_true, sameP_iff, listP_iff]; simp
theorem listP_no {l u : List Ch} (h : l ≠ u) : listP l u = false := by
  cases hb : listP l u with
  | false => rfl
  | true => exact absurd (listP_iff.1 hb) h
theorem sameL_take {l u : List Ch} {k : Nat} {x y : Ch} (h : l.take k = u.take k) (hx : l[k]? = some x) (hy : u[k]? = some y) : (sameP x y = true → l.take (k + 1) = u.take (k + 1)) ∧ (sameP x y = false → l ≠ u) := by
  constructor
  · intro e
    rw [take_at hx, take_at hy, h, sameP_iff.1 e]
  · intro e hl
    subst hl
    rw [hx] at hy
    injection hy with hy
    subst hy
    rw [sameP_self] at e
    cases e

set_option maxHeartbeats 2000000 in
theorem refListL (A : Option Addr) (n c : Nat) (A' : Option Addr) (n' c' : Nat) (l u : List Ch) (w : World) (b : Bool) (hn : l.length = n) (hn' : u.length = n') (hle : n ≤ 20000) (hR : RdP w (· < w.heap.size) A l) (hR' : RdP w (· < w.heap.size) A' u) (hb : listP l u = b) :
    Calls Try.prog 55 #[.slice A n c, .slice A' n' c'] w (BoolEnd w b) := by
  have HR := Lib.hid hR; have HR' := Lib.hid hR'; have HN := Lib.hid hn; have HN' := Lib.hid hn'
  have HB := Lib.hid hb.symm
  clear hR hR' hn hn' hb
  go_enter Try.func55, Try.ntmps55
  by_cases h0 : n = n'
  · subst h0
    go_wp2
    go_loopw [5] (fun i wr => ∃ k : Nat, k ≤ n ∧ i = .int .i64 (k : Int) ∧ l.take k = u.take k ∧ Below w.heap.size w wr) (fun i _ => n - (intOf i).toNat)
    case atStart => exact ⟨0, Nat.zero_le _, rfl, rfl, Below.refl _ _⟩
    case round =>
      obtain ⟨k, hk, rfl, hall, hbw⟩ := hrel
      have HBW := Lib.hid hbw; have HAL := Lib.hid hall; clear hbw hall
      by_cases hlt : k < n
      · have hki : (k : Int) < (n : Int) := by omega
        obtain ⟨a, x, B, i, j, D, m, d, rfl, hS, hx, c0, c1, c2, c3, c4, c5, c6⟩ := ((HR.out.mv HBW.out).elem (k := k) (by rw [HN.out]; exact hlt))
        obtain ⟨a', y, B', i', j', D', m', d', rfl, hS', hy, g0, g1, g2, g3, g4, g5, g6⟩ := ((HR'.out.mv HBW.out).elem (k := k) (by rw [HN'.out]; exact hlt))
        have HX := Lib.hid hx; have HP := Lib.hid c6; clear hx c6
        have HY := Lib.hid hy; have HQ := Lib.hid g6; clear hy g6
        obtain ⟨bl, hbl⟩ : ∃ b, sameP x y = b := ⟨_, rfl⟩
        have HSA := Lib.hid hS; have HSB := Lib.hid hS'
        have HK : Hid (∀ W, Below wr.heap.size wr W → W.cell? (a.add (k * 6)) = some (.int .i64 x.k) ∧ W.cell? ⟨(a.add (k * 6)).block, (a.add (k * 6)).off + 1, none⟩ = some (strV x.nm) ∧ W.cell? ⟨(a.add (k * 6)).block, (a.add (k * 6)).off + 2, none⟩ = some (strV x.to) ∧ W.cell? ⟨(a.add (k * 6)).block, (a.add (k * 6)).off + 3, none⟩ = some (.int .i64 x.h.pos) ∧ W.cell? ⟨(a.add (k * 6)).block, (a.add (k * 6)).off + 4, none⟩ = some (.slice B i j) ∧ W.cell? ⟨(a.add (k * 6)).block, (a.add (k * 6)).off + 5, none⟩ = some (.slice D m d) ∧ W.cell? (a'.add (k * 6)) = some (.int .i64 y.k) ∧ W.cell? ⟨(a'.add (k * 6)).block, (a'.add (k * 6)).off + 1, none⟩ = some (strV y.nm) ∧ W.cell? ⟨(a'.add (k * 6)).block, (a'.add (k * 6)).off + 2, none⟩ = some (strV y.to) ∧ W.cell? ⟨(a'.add (k * 6)).block, (a'.add (k * 6)).off + 3, none⟩ = some (.int .i64 y.h.pos) ∧ W.cell? ⟨(a'.add (k * 6)).block, (a'.add (k * 6)).off + 4, none⟩ = some (.slice B' i' j') ∧ W.cell? ⟨(a'.add (k * 6)).block, (a'.add (k * 6)).off + 5, none⟩ = some (.slice D' m' d')) := Lib.hid (fun W hb => by
          have l0 : (a.add (k * 6)).block < wr.heap.size := by rw [add_block]; exact HSA.out
          have l1 : (a'.add (k * 6)).block < wr.heap.size := by rw [add_block]; exact HSB.out
          exact ⟨cell_b hb c0 l0, cell_b hb c1 l0, cell_b hb c2 l0, cell_b hb c3 l0, cell_b hb c4 l0, cell_b hb c5 l0, cell_b hb g0 l1, cell_b hb g1 l1, cell_b hb g2 l1, cell_b hb g3 l1, cell_b hb g4 l1, cell_b hb g5 l1⟩)
        have C1 := Lib.hid (refSameP B i j D m d B' i' j' D' m' d' _ x y wr.drew bl (Nat.le_refl _) (HP.out.pv.drewN 1) (HQ.out.pv.drewN 1) hbl)
        have HD := Lib.hid (below_drewN (Below.refl wr.heap.size wr) 1)
        clear hS hS'
        go_wp2_with fail
        go_region_held3 (fun W => W.cell? (a.add (k * 6)) = some (.int .i64 x.k) ∧ W.cell? ⟨(a.add (k * 6)).block, (a.add (k * 6)).off + 1, none⟩ = some (strV x.nm) ∧ W.cell? ⟨(a.add (k * 6)).block, (a.add (k * 6)).off + 2, none⟩ = some (strV x.to) ∧ W.cell? ⟨(a.add (k * 6)).block, (a.add (k * 6)).off + 3, none⟩ = some (.int .i64 x.h.pos) ∧ W.cell? ⟨(a.add (k * 6)).block, (a.add (k * 6)).off + 4, none⟩ = some (.slice B i j) ∧ W.cell? ⟨(a.add (k * 6)).block, (a.add (k * 6)).off + 5, none⟩ = some (.slice D m d) ∧ W.cell? (a'.add (k * 6)) = some (.int .i64 y.k) ∧ W.cell? ⟨(a'.add (k * 6)).block, (a'.add (k * 6)).off + 1, none⟩ = some (strV y.nm) ∧ W.cell? ⟨(a'.add (k * 6)).block, (a'.add (k * 6)).off + 2, none⟩ = some (strV y.to) ∧ W.cell? ⟨(a'.add (k * 6)).block, (a'.add (k * 6)).off + 3, none⟩ = some (.int .i64 y.h.pos) ∧ W.cell? ⟨(a'.add (k * 6)).block, (a'.add (k * 6)).off + 4, none⟩ = some (.slice B' i' j') ∧ W.cell? ⟨(a'.add (k * 6)).block, (a'.add (k * 6)).off + 5, none⟩ = some (.slice D' m' d'))
          (first | go_keep | (exact hz))
          (first | (go_at_call 68; (with_reducible refine C1.out.mono ?_); rintro e w2 ⟨rfl, hb⟩; have hb2 := below_mv HD.out hb; have hz := HK.out w2 hb2; clear hb))
        clear hz
        have HBL := Lib.hid (sameL_take HAL.out HX.out HY.out)
        have hbw2 := below_mv HBW.out hb2
        have HBW2 := Lib.hid hbw2; clear hbw2 c0 c1 c2 c3 c4 c5 g0 g1 g2 g3 g4 g5 hb2
        rw [hbl] at HBL
        clear hbl
        cases bl with
        | false =>
          go_wp2
          go_ret
          exact ⟨ret_bool (by rw [HB.out, listP_no (HBL.out.2 (by simp))]), HBW2.out⟩
        | true =>
          go_wp2_with fail
          exact ⟨⟨k + 1, by omega, by go_num, HBL.out.1 (by simp), HBW2.out⟩, by simp [intOf]; omega⟩
      · go_wp2
        go_ret
        refine ⟨ret_bool ?_, HBW.out⟩
        have h1 := HAL.out
        rw [List.take_of_length_le (by rw [HN.out]; omega), List.take_of_length_le (by rw [HN'.out]; omega)] at h1
        rw [HB.out, listP_iff.2 h1]
  · have e0 : ((n : Int) == (n' : Int)) = false := by rw [beq_eq_false_iff_ne]; omega
    go_wp2
    go_ret
    exact ⟨ret_bool (by rw [HB.out, listP_no (fun e => h0 (by rw [← HN.out, ← HN'.out, e]))]), Below.refl _ _⟩

end Fl
end Go.Proofs.Ytdnkinajbebkoaa

set_option maxRecDepth 100000
namespace Go.Proofs.Ytdnkinajbebkoaa
open Go.RowKit
set_option linter.unusedVariables false
namespace Rg

/-- J does not mind new blocks, nor the turn of one block, at or beyond B, that is Free. -/
def Ab {β : Type} (Free : Obj → Prop) (B : Nat) (J : β → World → Prop) : Prop :=
  ∀ s W W' row, J s W → W.grownBy W' row → (∀ r, row = some r → B ≤ r ∧ ∃ o : Obj, W.heap[r]? = some o ∧ Free o) → J s W'

section
variable {β : Type} {Free : Obj → Prop} {B : Nat} {J J' : β → World → Prop}
theorem Ab.alloc (h : Ab Free B J) {s : β} {W : World} (o : Obj) (hs : J s W) : J s (W.alloc o) := h s W _ none hs (World.grownBy_alloc W o none) (fun r e => by cases e)
theorem Ab.new (h : Ab Free B J) {s : β} {W W' : World} (hs : J s W) (hg : W.grownBy W' none) : J s W' := h s W _ none hs hg (fun r e => by cases e)
theorem Ab.put (h : Ab Free B J) {s : β} {W : World} {l : Nat} {o : Obj} (o' : Obj) (hs : J s W) (hB : B ≤ l) (hl : W.heap[l]? = some o) (ho : Free o) : J s (W.putObj l o') :=
  h s W _ (some l) hs (grownBy_putObj' W l o') (fun r e => by cases e; exact ⟨hB, o, hl, ho⟩)
theorem Ab.and (h : Ab Free B J) (h' : Ab Free B J') : Ab Free B (fun s W => J s W ∧ J' s W) := fun s W W' row hs hg hr => ⟨h s W W' row hs.1 hg hr, h' s W W' row hs.2 hg hr⟩
theorem ab_pure (Free : Obj → Prop) (B : Nat) (p : β → Prop) : Ab Free B (fun s (_ : World) => p s) := fun _ _ _ _ hs _ _ => hs
/-- What lay in w0 and is no other block than 'row' is as it was. -/
theorem grow_trans {w W W' : World} {r r' : Option Nat} (h : w.grownBy W r) (k : W.grownBy W' r') (hr : ∀ j, r' = some j → w.heap.size ≤ j ∨ r = some j) : w.grownBy W' r :=
  ⟨k.os.trans h.os, k.tape.trans h.tape, k.output.trans h.output, Nat.le_trans h.size k.size, fun j hj hne => by
    refine (k.block j (by have := h.size; omega) (fun e => ?_)).trans (h.block j hj hne)
    rcases hr j e.symm with h1 | h1
    · omega
    · exact hne h1.symm⟩
theorem ab_grown {w : World} {r : Option Nat} (hB : w.heap.size ≤ B) : Ab Free B (fun (_ : β) W => w.grownBy W r) := fun _ W W' row hs hg hrow =>
  grow_trans hs hg (fun j e => .inl (by have := (hrow j e).1; omega))
theorem ab_ex {γ : Type} {K : γ → β → World → Prop} (h : ∀ c, Ab Free B (K c)) : Ab Free B (fun s W => ∃ c, K c s W) := fun s W W' row ⟨c, hs⟩ hg hrow => ⟨c, h c s W W' row hs hg hrow⟩
end

/-- What is no cells may be turned. -/
abbrev Plain (o : Obj) : Prop := o.isCells = false
/-- The iterator gives the items of 'full', in order, as long as it is told to go on; E says as which values, and what holds there, an item is handed over. -/
def GivesE {α : Type} (P : Program) (Free : Obj → Prop) (n g : Nat) (lb : Array Value) (E : α → Array Value → World → Prop) (full : List α) (Kp : World → World → Prop) (w : World) : Prop :=
  ∀ (J Jx : List α → World → Prop) (W : World), Below w.heap.size w W → W.heap.size = w.heap.size + 2 → Ab Free (w.heap.size + 2) J → Ab Free (w.heap.size + 2) Jx →
    (∀ pre x post vals W1, full = pre ++ x :: post → J pre W1 → E x vals W1 → YieldAt Fence.wide (n - 1) P (w.heap.size + 1) vals W1 fun e W' =>
      (e = .returned (.bool true) ∧ J (pre ++ [x]) W' ∧ Kp W1 W') ∨ (e = .returned (.bool false) ∧ Jx (pre ++ [x]) W' ∧ KeepsFrom (w.heap.size + 2) W1 W')) →
    J [] W →
    CallsIn Fence.wide n P g (#[.func (.yield (w.heap.size + 1)) #[] #[]] ++ lb) W fun e W' => (∃ v, e = .returned v) ∧ (J full W' ∨ ∃ pre post, full = pre ++ post ∧ Jx pre W')
theorem keepsFrom_mono {B B' : Nat} {X Y : World} (h : KeepsFrom B X Y) (hB : B ≤ B') : KeepsFrom B' X Y := ⟨h.size, fun k o hk h1 h2 => h.same k o (by omega) h1 h2⟩
theorem keepsFrom_put {B l : Nat} (W : World) (o : Obj) (h : l < B) : KeepsFrom B W (W.putObj l o) := ⟨by simp, fun k o' hk h1 _ => (World.putObj_heap_other (by omega)).trans h1⟩
/-- Of a round that has said 'no more' less may be told. -/
theorem yield_less {P : Program} {n l : Nat} {vals : Array Value} {W1 : World} {T : Ending → World → Prop} {U V : World → Prop} (h : YieldAt Fence.wide n P l vals W1 fun e W' => T e W' ∨ (e = .returned (.bool false) ∧ U W' ∧ V W')) : YieldAt Fence.wide n P l vals W1 fun e W' => T e W' ∨ (e = .returned (.bool false) ∧ U W') := by
  obtain ⟨fn, tmps, assign, body, hy, hR⟩ := h
  exact ⟨fn, tmps, assign, body, hy, hR.mono fun e w' h => h.imp id fun h => ⟨h.1, h.2.1⟩⟩

section
variable {P : Program} {n : Nat}

theorem range_law {α : Type} {g : Operand} {ps : Array Tmp} {assign body : Code} {Q : Exit → Act → World → Prop} {a : Act} {w : World}
    {gf : Nat} {lb : Array Value} (hg : a.eval g = .func (.func gf) #[] lb) (eg : ∀ args w, (callFunc gf args).run P w = .ok (.enter gf args) w)
    {Free : Obj → Prop} (hfree : ∀ o : Obj, o.isCells = false → Free o) {E : α → Array Value → World → Prop} {full : List α} {Kp : World → World → Prop} (hseq : GivesE P Free (n - 1) gf lb E full Kp w)
    (hKt : ∀ {A B C : World}, Kp A B → Kp B C → Kp A C) (hKb : ∀ (W : World) (o o' : Obj), W.heap[w.heap.size + 1]? = some o → o.isCells = false → Kp W (W.putObj (w.heap.size + 1) o')) (hps : ∀ x vals W, E x vals W → vals.size = ps.size)
    (I : List α → World → Prop) (Ix : Code → List α → World → Prop) (hI : Ab Free w.heap.size I) (hIx : ∀ c, Ab Free w.heap.size (Ix c)) (h0 : I [] w)
    (Ax : α → Act → World → Prop) (hAx : ∀ x a', Ab Free w.heap.size (fun (_ : Unit) W => Ax x a' W))
    (hassign : ∀ (l : Nat) (pre : List α) (x : α) (vals : Array Value) (W : World) (K : Act → World → Prop), I pre W → E x vals W → (∀ a' W', KeepsFrom w.heap.size W W' → Kp W W' → I pre W' → Ax x a' W' → K a' W') →
      assign.wpIn (Fence.wide.inRound l) (n - 1 - 1) P (Exit.then K (fun _ _ _ => False)) { tmps := (ps.zip vals).foldl (fun t (p, v) => t.setIfInBounds p v) a.tmps, defers := [] } W)
    (hbody : ∀ (l : Nat) (pre post : List α) (x : α) (a' : Act) (W : World), full = pre ++ x :: post → I pre W → Ax x a' W → body.wpIn (Fence.wide.inRound l) (n - 1 - 1) P (ownPostG w.heap.size Kp I Ix (pre ++ [x]) W) a' W)
    (hdone : ∀ (D : Nat) (W : World), w.heap.size ≤ D → I full W → W.heap[D]? = some (.deferred (some [])) → Q .normal { a with defers := { target := .collected D, args := #[] } :: a.defers } W)
    (hstop : ∀ (D : Nat) (c : Code) (pre post : List α) (W : World), w.heap.size ≤ D → full = pre ++ post → Ix c pre W → W.heap[D]? = some (.deferred (some [])) → c.wpIn Fence.wide n P Q { a with defers := { target := .collected D, args := #[] } :: a.defers } W) :
    (Code.rangeFunc g ps assign body).wpIn Fence.wide n P Q a w := by
  refine wpIn_rangeFunc fun fn hfn => ?_
  let rc : LoopState → Option Code → Loop := fun st pe => { state := st, pending := pe, fn, tmps := a.tmps, params := ps, assign, body, defers := w.heap.size }
  have hd1 : ((w.alloc (.deferred (some []))).alloc (.loop (rc .ready none))).heap[w.heap.size + 1]? = some (.loop (rc .ready none)) := by
    have := World.alloc_heap_new (w.alloc (.deferred (some []))) (.loop (rc .ready none)); rwa [World.size_alloc] at this
  have hd0 : ((w.alloc (.deferred (some []))).alloc (.loop (rc .ready none))).heap[w.heap.size]? = some (.deferred (some [])) :=
    (Below.heap_alloc _ _ _ (by simp)).trans (World.alloc_heap_new w _)
  have hb1 : Below w.heap.size w ((w.alloc (.deferred (some []))).alloc (.loop (rc .ready none))) := ((Below.refl _ w).alloc (Nat.le_refl _) _).alloc (by simp) _
  have hs1 : ((w.alloc (.deferred (some []))).alloc (.loop (rc .ready none))).heap.size = w.heap.size + 2 := by simp
  have hi1 : I [] ((w.alloc (.deferred (some []))).alloc (.loop (rc .ready none))) := hI.alloc _ (hI.alloc _ h0)
  have hrun := run_enterLoop_outer (P := P) (w := w) fn a.tmps ps assign body
  refine ⟨w.heap.size + 1, _, ((w.alloc (.deferred (some []))).alloc (.loop (rc .ready none))), { target := .fn (.func gf) lb, args := #[.func (.yield (w.heap.size + 1)) #[] #[]] }, ((w.alloc (.deferred (some []))).alloc (.loop (rc .ready none))), gf, #[.func (.yield (w.heap.size + 1)) #[] #[]] ++ lb, ((w.alloc (.deferred (some []))).alloc (.loop (rc .ready none))), hrun, ?_, ?_, ?_, (fun h => by cases h), ?_⟩
  · simp only [resolve, hg]; simp [go_sem]
  · intro f' hf'; exact trivial
  · simp [invoke, go_sem, eg]
  · have keep : ∀ {A B : World} {row : Option Nat} {k : Nat} {o : Obj}, A.grownBy B row → (∀ r, row = some r → w.heap.size + 2 ≤ r ∧ ∃ o : Obj, A.heap[r]? = some o ∧ Free o) → k < w.heap.size + 2 → A.heap[k]? = some o → B.heap[k]? = some o := fun hg' hr hk ho =>
      (hg'.block _ (Array.getElem?_eq_some_iff.1 ho).1 (fun e => by have := (hr _ e.symm).1; omega)).trans ho
    have up : ∀ {A : World} {row : Option Nat}, (∀ r, row = some r → w.heap.size + 2 ≤ r ∧ ∃ o : Obj, A.heap[r]? = some o ∧ Free o) → (∀ r, row = some r → w.heap.size ≤ r ∧ ∃ o : Obj, A.heap[r]? = some o ∧ Free o) := fun hr r e => ⟨by have := (hr r e).1; omega, (hr r e).2⟩
    refine (hseq (fun pre W => I pre W ∧ W.heap[w.heap.size + 1]? = some (.loop (rc .ready none)) ∧ W.heap[w.heap.size]? = some (.deferred (some [])))
      (fun pre W => ∃ c, Ix c pre W ∧ W.heap[w.heap.size + 1]? = some (.loop (rc .done (some c))) ∧ W.heap[w.heap.size]? = some (.deferred (some [])))
      _ hb1 hs1
      (fun s A B row hs hg' hr => ⟨hI s A B row hs.1 hg' (up hr), keep hg' hr (by omega) hs.2.1, keep hg' hr (by omega) hs.2.2⟩)
      (fun s A B row ⟨c, hc, hl, hk⟩ hg' hr => ⟨c, hIx c s A B row hc hg' (up hr), keep hg' hr (by omega) hl, keep hg' hr (by omega) hk⟩)
      ?_ ⟨hi1, hd1, hd0⟩).mono ?_
    · rintro pre x post vals W hfull ⟨hi, hl, hk⟩ hE
      have hy := run_yield (P := P) (args := vals) hl (hps x vals W hE)
      refine ⟨fn, _, assign, body, hy, roundIn_of_wpIn hfn (hassign _ pre x vals W _ hi hE fun a' Wa hkf hkp hia hax => ?_)⟩
      have hl' := hkf.same _ _ (by omega) hl rfl
      have hk' := hkf.same _ _ (Nat.le_refl _) hk rfl
      have hlt : w.heap.size + 1 < Wa.heap.size := (Array.getElem?_eq_some_iff.1 hl').1
      refine ⟨_, run_beginRound hl' rfl, ?_⟩
      have hl2 : (Wa.putObj (w.heap.size + 1) (.loop { rc .ready none with state := .busy })).heap[w.heap.size + 1]? = some (.loop { rc .ready none with state := .busy }) := World.putObj_heap_same hlt
      have hk2 : (Wa.putObj (w.heap.size + 1) (.loop { rc .ready none with state := .busy })).heap[w.heap.size]? = some (.deferred (some [])) := (World.putObj_heap_other (by omega)).trans hk'
      have hw2 := hKt hkp (hKb Wa _ (.loop { rc .ready none with state := .busy }) hl' rfl)
      refine wpIn_mono (hbody _ pre post x a' _ hfull (hI.put _ hia (by omega) hl' (hfree _ rfl)) ((hAx x a').put (s := ()) _ hax (by omega) hl' (hfree _ rfl))) ?_
      have fin : ∀ (jump : Option Code) (W3 : World), KeepsFrom w.heap.size (Wa.putObj (w.heap.size + 1) (.loop { rc .ready none with state := .busy })) W3 →
          (Instr.endRound (w.heap.size + 1) jump).run P W3 = .ok (.bool jump.isNone) (W3.putObj (w.heap.size + 1) (.loop (rc (if jump.isNone then .ready else .done) jump))) ∧
          W3.heap[w.heap.size + 1]? = some (.loop { rc .ready none with state := .busy }) ∧
          (W3.putObj (w.heap.size + 1) (.loop (rc (if jump.isNone then .ready else .done) jump))).heap[w.heap.size + 1]? = some (.loop (rc (if jump.isNone then .ready else .done) jump)) ∧
          (W3.putObj (w.heap.size + 1) (.loop (rc (if jump.isNone then .ready else .done) jump))).heap[w.heap.size]? = some (.deferred (some [])) := fun jump W3 hk3 => by
        have hl3 := hk3.same _ _ (by omega) hl2 rfl
        exact ⟨run_endRound (P := P) jump hl3, hl3, World.putObj_heap_same (Array.getElem?_eq_some_iff.1 hl3).1, (World.putObj_heap_other (by omega)).trans (hk3.same _ _ (Nat.le_refl _) hk2 rfl)⟩
      have out : ∀ (c : Code) (W3 : World), KeepsFrom w.heap.size (Wa.putObj (w.heap.size + 1) (.loop { rc .ready none with state := .busy })) W3 → Ix c (pre ++ [x]) W3 →
          ∃ c', Ix c' (pre ++ [x]) (W3.putObj (w.heap.size + 1) (.loop (rc .done (some c)))) ∧ (W3.putObj (w.heap.size + 1) (.loop (rc .done (some c)))).heap[w.heap.size + 1]? = some (.loop (rc .done (some c'))) ∧ (W3.putObj (w.heap.size + 1) (.loop (rc .done (some c)))).heap[w.heap.size]? = some (.deferred (some [])) := fun c W3 hk3 hi3 => by
        obtain ⟨_, hl3, hl4, hk4⟩ := fin (some c) W3 hk3
        exact ⟨c, (hIx c).put _ hi3 (by omega) hl3 (hfree _ rfl), hl4, hk4⟩
      have kf : ∀ (o : Obj) (W3 : World), KeepsFrom w.heap.size (Wa.putObj (w.heap.size + 1) (.loop { rc .ready none with state := .busy })) W3 → KeepsFrom (w.heap.size + 2) W (W3.putObj (w.heap.size + 1) o) := fun o W3 h =>
        (((keepsFrom_mono hkf (by omega)).trans (keepsFrom_put _ _ (by omega))).trans (keepsFrom_mono h (by omega))).trans (keepsFrom_put _ _ (by omega))
      rintro e a3 W3 hp
      cases e with
      | normal =>
        obtain ⟨hk3, hkp3, hi3⟩ := hp
        obtain ⟨hr, hl3, hl4, hk4⟩ := fin none W3 hk3
        exact ⟨_, _, hr, .inl ⟨rfl, ⟨hI.put _ hi3 (by omega) hl3 (hfree _ rfl), hl4, hk4⟩, hKt (hKt hw2 hkp3) (hKb _ _ _ hl3 rfl)⟩⟩
      | ret => exact ⟨_, _, (fin (some .ret) W3 hp.1).1, .inr ⟨rfl, out _ W3 hp.1 hp.2, kf _ W3 hp.1⟩⟩
      | exit id => exact ⟨_, _, (fin (some (.exit id)) W3 hp.1).1, .inr ⟨rfl, out _ W3 hp.1 hp.2, kf _ W3 hp.1⟩⟩
      | goto t => exact ⟨_, _, (fin (some (.goto t)) W3 hp.1).1, .inr ⟨rfl, out _ W3 hp.1 hp.2, kf _ W3 hp.1⟩⟩
      | panic ch => exact hp.elim
      | outgrown => exact hp.elim
    · rintro e W2 ⟨⟨v, rfl⟩, ⟨hi, hl, hk⟩ | ⟨pre, post, hpp, c, hi, hl, hk⟩⟩
      · exact ⟨none, _, run_endLoop (P := P) hl (by simp [rc]), hdone _ _ (Nat.le_refl _) (hI.put _ hi (by omega) hl (hfree _ rfl)) ((World.putObj_heap_other (by omega)).trans hk)⟩
      · exact ⟨some c, _, run_endLoop (P := P) hl (by simp [rc]), hstop _ c pre post _ (Nat.le_refl _) hpp ((hIx c).put _ hi (by omega) hl (hfree _ rfl)) ((World.putObj_heap_other (by omega)).trans hk)⟩

end

section
variable {P : Program} {ops : Array Oper} {Q : Exit → Act → World → Prop} {l n : Nat} {md : Region.Mode}

def noDefer (ops : List Oper) : Bool := ops.all fun o => match o.op with | .defer _ => false | _ => true
theorem noDefer_spec {ops : List Oper} (h : noDefer ops = true) {o : Oper} (ho : o ∈ ops) : ∀ c, o.op ≠ .defer c := by
  intro c e
  have := List.all_eq_true.1 h o ho
  rw [e] at this; cases this

theorem oper_round {o : Oper} (hd : ∀ c, o.op ≠ .defer c) (hQ : ¬ LetsOut Q) {a : Act} {w : World} {K : Act → World → Prop} (h : o.wp P a w K Q) : o.wpIn (Fence.wide.inRound l) n P a w K Q := by
  refine ⟨fun _ _ => trivial, ?_⟩
  rw [Oper.semAt_eq _ _ _ hd]
  unfold Oper.wp at h
  generalize (execOp a.eval o).run P w = r at *
  cases r with
  | ok x w' =>
    cases x <;> simp only [Oper.upon, Oper.uponIn] at h ⊢ <;>
      first
        | exact h
        | exact ⟨fun h => (by cases h), CallsIn.inRound l (callsIn_wide.2 h)⟩
        | exact ⟨fun h => (by cases h), fun b cs _ => let ⟨v, w'', r, s⟩ := h b cs; ⟨v, w'', r, stepsIn_wide.2 s⟩⟩
        | exact h.elim
  | halt x w' => cases x <;> simp only [Oper.upon, Oper.uponIn] at h ⊢ <;> exact h

theorem any_round (hd : noDefer ops.toList = true) (hQ : ¬ LetsOut Q) : ∀ (fuel : Nat) (listed : Array Bool) (a : Act) (w : World), wpAny P md ops Q fuel listed a w → wpAnyIn (Fence.wide.inRound l) n P md ops Q fuel listed a w
  | 0, _, _, _, h => h
  | fuel + 1, listed, a, w, h => ⟨h.1, fun i hi => by
      have h1 := h.2 i hi
      unfold wpOp at h1
      unfold wpOpIn
      cases ho : ops[i]? with
      | none => simp only [ho] at h1 ⊢; exact any_round hd hQ fuel _ _ _ h1
      | some o =>
        simp only [ho] at h1 ⊢
        have hm : o ∈ ops.toList := by
          obtain ⟨hlt, e⟩ := Array.getElem?_eq_some_iff.1 ho
          rw [← e]; exact Array.getElem_mem_toList hlt
        split
        · rename_i hw
          simp only [hw, if_true] at h1
          rcases h1 with h1 | ⟨_, h1⟩
          · exact Oper.wpIn_mono (fun a w h => any_round hd hQ fuel _ a w h) (oper_round (noDefer_spec hd hm) hQ h1)
          · exact absurd h1 hQ
        · rename_i hw
          simp only [hw] at h1
          exact ⟨fun _ _ => trivial, any_round hd hQ fuel _ _ _ (by simpa using h1)⟩⟩

theorem round_any {id : Nat} {a : Act} {w : World} (hm : P.follows .mixedOrders = true) (hd : noDefer ops.toList = true) (hQ : ¬ LetsOut Q)
    (h : wpAny P .any ops Q ops.size (Array.replicate ops.size false) a { w with drawn := w.drawn + 1 }) : (Code.region id ops true).wpIn (Fence.wide.inRound l) n P Q a w :=
  wpIn_region_any hm (any_round hd hQ _ _ _ _ h)

/-- .. of a region whose loads meet what S says, whatever comes ahead of them. -/
theorem round_held {id : Nat} {S : World → Prop} {a : Act} {w : World} (hm : P.follows .mixedOrders = true) (hd : noDefer ops.toList = true) (hQ : ¬ LetsOut Q) (hS : S w.drew)
    (h : S w.drew → wpAnyH P .any ops Q S ops.size (Array.replicate ops.size false) a w.drew) : (Code.region id ops true).wpIn (Fence.wide.inRound l) n P Q a w :=
  round_any hm hd hQ (wpAny_of_held _ _ _ _ (h hS))

end

section
variable {F : Fence} {n : Nat} {P : Program} {ops : Array Oper} {Q : Exit → Act → World → Prop} {md : Region.Mode}

end

end Rg
end Go.Proofs.Ytdnkinajbebkoaa

set_option maxRecDepth 100000
namespace Go.Proofs.Ytdnkinajbebkoaa
open Go.RowKit
set_option linter.unusedVariables false
namespace Fl
open Tx Df Sq Hk Tr Pr

/-- The blocks that there are, but for those of R. -/
def But (W : World) (R : Nat → Prop) : Nat → Prop := fun b => b < W.heap.size ∧ ¬ R b
theorem but_up {W W' : World} {R : Nat → Prop} (hs : W.heap.size ≤ W'.heap.size) : ∀ b, But W R b → But W' R b := fun b h => ⟨Nat.lt_of_lt_of_le h.1 hs, h.2⟩
theorem but_lt {W : World} {R : Nat → Prop} : ∀ b, But W R b → b < W.heap.size := fun b h => h.1
/-- Rows of cells in blocks that S names are as they were. -/
def KeepC (S : Nat → Prop) (W W' : World) : Prop := ∀ (b : Nat) (c : Array Value) (t : TypeId) (f : Nat × Nat), S b → W.heap[b]? = some (.cells c t f) → W'.heap[b]? = some (.cells c t f)
theorem cell_cells {W : World} {p : Addr} {u : Value} (h : W.cell? p = some u) : ∃ c t f, W.heap[p.block]? = some (.cells c t f) := by
  unfold World.cell? at h
  split at h
  · rename_i e; exact ⟨_, _, _, e⟩
  · cases h
section
variable {W W' : World} {S T : Nat → Prop} {A B : Option Addr} {xs : List Value} {n c m d base : Nat} {x : Ch} {l : List Ch} {v : Value} {row : Option Nat}
theorem KeepC.cell {p : Addr} {u : Value} (h : KeepC S W W') (hp : S p.block) (hc : W.cell? p = some u) : W'.cell? p = some u := by
  obtain ⟨c, t, f, e⟩ := cell_cells hc
  exact (World.cell?_of_block ((h _ c t f hp e).trans e.symm)).trans hc
theorem RdG.kc (h : RdG W S A xs) (hk : KeepC S W W') : RdG W' S A xs := h.imp id fun ⟨a, e, h1, h2⟩ => ⟨a, e, h1, fun j u hu => hk.cell (by rw [add_block]; exact h1) (h2 j u hu)⟩
theorem PG.kc (h : PG W S A n c B m d x) (hk : KeepC S W W') : PG W' S A n c B m d x := ⟨h.l, h.l', h.k, h.k', h.mm, h.mm', h.r.kc hk, h.r'.kc hk, h.pp, h.kk, h.nm, h.to, h.s, h.s'⟩
theorem PCells.kc (h : PCells W S l xs) (hk : KeepC S W W') : PCells W' S l xs := fun k x hx => by
  obtain ⟨A, n, c, B, m, d, h0, h1, h2, h3, h4, h5, h6⟩ := h k x hx
  exact ⟨A, n, c, B, m, d, h0, h1, h2, h3, h4, h5, h6.kc hk⟩
theorem keepC_plain (hg : W.grownBy W' row) (hr : ∀ r, row = some r → ∃ o : Obj, W.heap[r]? = some o ∧ o.isCells = false) : KeepC S W W' := fun b c t f _ hb => by
  refine (hg.block b (Array.getElem?_eq_some_iff.1 hb).1 fun e => ?_).trans hb
  obtain ⟨o, ho, hc⟩ := hr b e.symm
  rw [hb] at ho
  cases ho
  cases hc
theorem keepC_below (h : Below W.heap.size W W') : KeepC S W W' := fun b c t f _ hb => (h.block b (Array.getElem?_eq_some_iff.1 hb).1).trans hb
theorem OwnS.plain (h : OwnS W S base v l) (hg : W.grownBy W' row) (hr : ∀ r, row = some r → ∃ o : Obj, W.heap[r]? = some o ∧ o.isCells = false) : OwnS W' S base v l := by
  obtain ⟨xs, h1, h2⟩ := h
  refine ⟨xs, h1.kept hg ?_, h2.kc (keepC_plain hg hr)⟩
  rcases h1.2 with ⟨rfl, _⟩ | ⟨g, cap, cur, rfl, _, hgb, _⟩
  · exact .inl rfl
  · refine .inr fun e' => ?_
    obtain ⟨o, ho, hf⟩ := hr g (by simpa [Value.ownBlock] using e'.symm)
    rw [hgb] at ho; cases ho; cases hf
/-- .. where other blocks than its row and its lines' grow. -/
theorem OwnS.gr (h : OwnS W S base v l) (hg : W.grownBy W' row) (hne : ∀ g, v.ownBlock = some g → row ≠ some g) (hS : ∀ b, S b → row ≠ some b) : OwnS W' S base v l := by
  obtain ⟨xs, h1, h2⟩ := h
  refine ⟨xs, h1.kept hg ?_, h2.to ((alike_gr hg).mono fun b hb e => hS b hb e.symm)⟩
  rcases h1.2 with ⟨rfl, _⟩ | ⟨g, cap, cur, rfl, _, hgb, _⟩
  · exact .inl rfl
  · exact .inr fun e => hne g rfl e.symm
end

open Rg
section
variable {β : Type} {B : Nat}
theorem ab_blk {b : Nat} {t : TypeId} (f : β → Array Value) : Ab Plain B (fun s W => Blk W b t (f s)) := fun s W W' row hs hg hrow =>
  hs.gr hg (fun e => by obtain ⟨_, o, ho, hf⟩ := hrow b e.symm; rw [show W.heap[b]? = _ from hs] at ho; cases ho; cases hf)
theorem ab_ownS {R : Nat → Prop} {base : Nat} {v : Value} (f : β → List Ch) : Ab Plain B (fun s W => OwnS W (But W R) base v (f s)) := fun s W W' row hs hg hrow =>
  (hs.plain hg (fun r e => (hrow r e).2)).mono (but_up hg.size)
theorem ab_pg {R : Nat → Prop} {A D : Option Addr} {n c m d : Nat} (f : β → Ch) : Ab Plain B (fun s W => PG W (But W R) A n c D m d (f s)) := fun s W W' row hs hg hrow =>
  (hs.kc (keepC_plain hg (fun r e => (hrow r e).2))).mono (but_up hg.size)
end

/-- The cells of m changes can be read. -/
def Cells6 (W : World) (A : Option Addr) (m : Nat) : Prop := ∀ i, i < m → ∃ a v0 v1 v2 v3 v4 v5, A = some a ∧ W.cell? (a.add (i * 6)) = some v0 ∧ W.cell? ⟨(a.add (i * 6)).block, (a.add (i * 6)).off + 1, none⟩ = some v1 ∧ W.cell? ⟨(a.add (i * 6)).block, (a.add (i * 6)).off + 2, none⟩ = some v2 ∧
  W.cell? ⟨(a.add (i * 6)).block, (a.add (i * 6)).off + 3, none⟩ = some v3 ∧ W.cell? ⟨(a.add (i * 6)).block, (a.add (i * 6)).off + 4, none⟩ = some v4 ∧ W.cell? ⟨(a.add (i * 6)).block, (a.add (i * 6)).off + 5, none⟩ = some v5
theorem Cells6.kc {W W' : World} {A : Option Addr} {m : Nat} (h : Cells6 W A m) (hk : KeepC (fun _ => True) W W') : Cells6 W' A m := fun i hi => by
  obtain ⟨a, v0, v1, v2, v3, v4, v5, e, h0, h1, h2, h3, h4, h5⟩ := h i hi
  exact ⟨a, v0, v1, v2, v3, v4, v5, e, hk.cell trivial h0, hk.cell trivial h1, hk.cell trivial h2, hk.cell trivial h3, hk.cell trivial h4, hk.cell trivial h5⟩
theorem cells6_below {W W' : World} {A : Option Addr} {m : Nat} (h : Cells6 W A m) (hb : Below W.heap.size W W') : Cells6 W' A m := h.kc (keepC_below hb)
theorem cells6_own {W : World} {S : Nat → Prop} {A : Option Addr} {l : List Ch} {m n c base : Nat} (h : OwnS W S base (.slice A n c) l) (hm : l.length = m) : Cells6 W A m := fun i hi => by
  have hr0 := h
  obtain ⟨xs, hr, _⟩ := hr0
  rcases hr.2 with ⟨_, h0⟩ | ⟨g, cap, cur, e, _, hgb, hc, _⟩
  · omega
  · injection e with e1 e2 e3
    subst e1
    have e2' : n = l.length := e2
    subst e2'
    obtain ⟨B, i', j, D, m', d, c0, c1, c2, c3, c4, c5, _⟩ := h.elem rfl (List.getElem?_eq_getElem (show i < l.length by omega))
    have ea : (⟨g, 0, none⟩ : Addr).add (i * 6) = ⟨g, i * 6, none⟩ := by unfold Addr.add; split <;> simp_all
    exact ⟨_, _, _, _, _, _, _, rfl, by rw [ea]; exact c0, by rw [ea]; exact c1, by rw [ea]; exact c2, by rw [ea]; exact c3, by rw [ea]; exact c4, by rw [ea]; exact c5⟩

end Fl
end Go.Proofs.Ytdnkinajbebkoaa

set_option maxRecDepth 100000
namespace Go.Proofs.Ytdnkinajbebkoaa
open Go.RowKit
set_option linter.unusedVariables false
namespace Tg
open Tx Df Sq Hk Tr Pr Fl Pn

/-- Two slice values that read, in blocks that S names, as a patch's Deps and changes. -/
structure NG (w : World) (S : Nat → Prop) (D : Option Addr) (dn dc : Nat) (A : Option Addr) (n c : Nat) (p : Nm) : Prop where
  dl : p.deps.length = dn
  dk : dn ≤ dc
  dm : dn ≤ maxLen
  dr : RdG w S D (idsV p.deps)
  tm : p.txt.length ≤ maxLen
  l : p.l.length = n
  k : n ≤ c
  m : n ≤ maxLen
  r : RdP w S A p.l
section
variable {W W' : World} {S T : Nat → Prop} {D A : Option Addr} {dn dc n c B base : Nat} {p : Nm} {l : List Ch} {xs : List Value}
theorem PrAt.kc {a : Addr} {k : Nat} {x : Ch} (h : PrAt W S a k x) (hS : S a.block) (hk : KeepC S W W') : PrAt W' S a k x := by
  obtain ⟨c0, c1, c2, c3, A, n, c, B, m, d, c4, c5, c6⟩ := h
  have hb : S (a.add (k * 6)).block := by rw [add_block]; exact hS
  exact ⟨hk.cell hb c0, hk.cell hb c1, hk.cell hb c2, hk.cell hb c3, A, n, c, B, m, d, hk.cell hb c4, hk.cell hb c5, c6.kc hk⟩
theorem RdP.kc_ (h : RdP W S A l) (hk : KeepC S W W') : RdP W' S A l := h.imp id fun ⟨a, e, h1, h2⟩ => ⟨a, e, h1, fun k x hx => PrAt.kc (h2 k x hx) h1 hk⟩
theorem NG.mono (h : NG W S D dn dc A n c p) (hs : ∀ b, S b → T b) : NG W T D dn dc A n c p := ⟨h.dl, h.dk, h.dm, h.dr.mono hs, h.tm, h.l, h.k, h.m, h.r.mono hs⟩
theorem NG.to_ (h : NG W S D dn dc A n c p) (ha : Fl.Alike S W W') : NG W' S D dn dc A n c p := ⟨h.dl, h.dk, h.dm, h.dr.to ha, h.tm, h.l, h.k, h.m, h.r.to ha⟩
theorem NG.kc (h : NG W S D dn dc A n c p) (hk : KeepC S W W') : NG W' S D dn dc A n c p := ⟨h.dl, h.dk, h.dm, h.dr.kc hk, h.tm, h.l, h.k, h.m, RdP.kc_ h.r hk⟩
theorem NG.nv (h : NG W (· < B) D dn dc A n c p) : NV W B D dn dc A n c p := ⟨h.dl, h.dk, h.dm, h.dr, h.tm, h.l, h.k, h.m, h.r⟩
theorem ng_of (h : NV W B D dn dc A n c p) : NG W (· < B) D dn dc A n c p := ⟨h.dl, h.dk, h.dm, h.dr, h.tm, h.l, h.k, h.m, h.r⟩
end

/-- The blocks made behind w. -/
def Since (w W : World) : Nat → Prop := fun b => w.heap.size ≤ b ∧ b < W.heap.size
/-- The cells of patches, as far as they go; what they hold lies in blocks that S names. -/
def NCellsS (W : World) (S : Nat → Prop) (l : List Nm) (xs : List Value) : Prop :=
  ∀ (k : Nat) x, l[k]? = some x → ∃ D dn dc A n c, xs[k * 5]? = some (.int .i64 x.id.1) ∧ xs[k * 5 + 1]? = some (.int .i64 x.id.2) ∧ xs[k * 5 + 2]? = some (.slice D dn dc) ∧ xs[k * 5 + 3]? = some (strV x.txt) ∧ xs[k * 5 + 4]? = some (.slice A n c) ∧ NG W S D dn dc A n c x
section
variable {W W' : World} {S T : Nat → Prop} {N base : Nat} {v : Value} {l u : List Nm} {xs ys : List Value}
theorem NCellsS.mono (h : NCellsS W S l xs) (hs : ∀ b, S b → T b) : NCellsS W T l xs := fun k x hx => by
  obtain ⟨D, dn, dc, A, n, c, h0, h1, h2, h3, h4, h5⟩ := h k x hx
  exact ⟨D, dn, dc, A, n, c, h0, h1, h2, h3, h4, h5.mono hs⟩
theorem NCellsS.to (h : NCellsS W S l xs) (ha : Fl.Alike S W W') : NCellsS W' S l xs := fun k x hx => by
  obtain ⟨D, dn, dc, A, n, c, h0, h1, h2, h3, h4, h5⟩ := h k x hx
  exact ⟨D, dn, dc, A, n, c, h0, h1, h2, h3, h4, h5.to_ ha⟩
theorem NCellsS.kc (h : NCellsS W S l xs) (hk : KeepC S W W') : NCellsS W' S l xs := fun k x hx => by
  obtain ⟨D, dn, dc, A, n, c, h0, h1, h2, h3, h4, h5⟩ := h k x hx
  exact ⟨D, dn, dc, A, n, c, h0, h1, h2, h3, h4, h5.kc hk⟩
theorem NCellsS.cells (h : NCellsS W (· < N) l xs) : NCells W N l xs := fun k x hx => by
  obtain ⟨D, dn, dc, A, n, c, h0, h1, h2, h3, h4, h5⟩ := h k x hx
  exact ⟨D, dn, dc, A, n, c, h0, h1, h2, h3, h4, h5.nv⟩

/-- Patches in a row of one's own; what they hold lies in blocks that S names. -/
def OwnT (W : World) (S : Nat → Prop) (base : Nat) (v : Value) (l : List Nm) : Prop := ∃ xs, W.ownsRow base 45 5 v l.length xs ∧ NCellsS W S l xs
theorem OwnT.own (h : OwnT W (· < N) base v l) : OwnM W N base v l := by
  obtain ⟨xs, h1, h2⟩ := h
  exact ⟨xs, h1, h2.cells⟩
theorem OwnT.mono (h : OwnT W S base v l) (hs : ∀ b, S b → T b) : OwnT W T base v l := by
  obtain ⟨xs, h1, h2⟩ := h
  exact ⟨xs, h1, h2.mono hs⟩
theorem OwnT.below (h : OwnT W S base v l) (hb : Below W.heap.size W W') : OwnT W' S base v l := by
  obtain ⟨xs, h1, h2⟩ := h
  exact ⟨xs, own_gr h1 (below_gr_row hb), h2.to (fun b _ hl => hb.block b hl)⟩
theorem OwnT.set (h : OwnT W S base v l) {b : Nat} (hb : some b ≠ v.ownBlock) (hN : ¬ S b) (j : Nat) (x : Value) : OwnT (W.setCell ⟨b, j, none⟩ x) S base v l := by
  obtain ⟨xs, h1, h2⟩ := h
  refine ⟨xs, h1.kept (grownBy_set W b j x) ?_, h2.to ((alike_set W b j x).mono fun k hk e => hN (e ▸ hk))⟩
  rcases h1.2 with ⟨rfl, _⟩ | ⟨g, cap, cur, rfl, _⟩
  · exact .inl rfl
  · exact .inr fun e => hb e.symm
theorem OwnT.set5 (h : OwnT W S base v l) {b : Nat} (hb : some b ≠ v.ownBlock) (hN : ¬ S b) (v0 v1 v2 v3 v4 : Value) :
    OwnT (((((W.setCell ⟨b, 0, none⟩ v0).setCell ⟨b, 1, none⟩ v1).setCell ⟨b, 2, none⟩ v2).setCell ⟨b, 3, none⟩ v3).setCell ⟨b, 4, none⟩ v4) S base v l :=
  ((((h.set hb hN 0 v0).set hb hN 1 v1).set hb hN 2 v2).set hb hN 3 v3).set hb hN 4 v4
theorem OwnT.plain {row : Option Nat} (h : OwnT W S base v l) (hg : W.grownBy W' row) (hr : ∀ r, row = some r → ∃ o : Obj, W.heap[r]? = some o ∧ o.isCells = false) : OwnT W' S base v l := by
  obtain ⟨xs, h1, h2⟩ := h
  refine ⟨xs, h1.kept hg ?_, h2.kc (keepC_plain hg hr)⟩
  rcases h1.2 with ⟨rfl, _⟩ | ⟨g, cap, cur, rfl, _, hgb, _⟩
  · exact .inl rfl
  · refine .inr fun e' => ?_
    obtain ⟨o, ho, hf⟩ := hr g (by simpa [Value.ownBlock] using e'.symm)
    rw [hgb] at ho; cases ho; cases hf
theorem ownT_ge (h : OwnT W S base v l) : ∀ g, v.ownBlock = some g → base ≤ g := fun g hg => (h.elim fun xs h => own_ge h.1 g hg)
theorem ownT_lt (h : OwnT W S base v l) : ∀ g, v.ownBlock = some g → g < W.heap.size := fun g hg => by
  obtain ⟨xs, hr, hF⟩ := h
  rcases hr.2 with ⟨rfl, _⟩ | ⟨g', cap, cur, rfl, hbg, hg', hc, _⟩
  · cases hg
  · injection hg with hg
    subst hg
    exact (Array.getElem?_eq_some_iff.1 hg').1
theorem ownT_slice (h : OwnT W S base v l) : ∃ A c, v = .slice A l.length c ∧ l.length ≤ c := by
  obtain ⟨xs, hr, hF⟩ := h
  rcases hr.2 with ⟨rfl, h1⟩ | ⟨g, cap, cur, rfl, hbg, hg, hc, _⟩
  · exact ⟨none, 0, by rw [h1], by rw [h1]; exact Nat.le_refl _⟩
  · exact ⟨_, cap, rfl, hc⟩
theorem ownT_addr (h : OwnT W S base v l) (h0 : 0 < l.length) : ∃ g cap, v = .slice (some ⟨g, 0, none⟩) l.length cap ∧ base ≤ g ∧ g < W.heap.size := by
  obtain ⟨xs, hr, hF⟩ := h
  rcases hr.2 with ⟨rfl, h1⟩ | ⟨g, cap, cur, rfl, hbg, hg, hc, _⟩
  · omega
  · exact ⟨g, cap, rfl, hbg, (Array.getElem?_eq_some_iff.1 hg).1⟩
/-- A row of patches of one's own is read as patches. -/
theorem rdN_ownT (h : OwnT W S base v l) (hS : ∀ b, S b → b < W.heap.size) : ∃ A c, v = .slice A l.length c ∧ l.length ≤ c ∧ RdN W W.heap.size A l := rdN_own (h.mono hS).own (Nat.le_refl _)

/-- One of a row's patches. -/
theorem OwnT.elem {g n cap k : Nat} {x : Nm} (h : OwnT W S base (.slice (some ⟨g, 0, none⟩) n cap) l) (hn : l.length = n) (hx : l[k]? = some x) :
    ∃ D dn dc A m c, W.cell? ⟨g, k * 5, none⟩ = some (.int .i64 x.id.1) ∧ W.cell? ⟨g, k * 5 + 1, none⟩ = some (.int .i64 x.id.2) ∧ W.cell? ⟨g, k * 5 + 2, none⟩ = some (.slice D dn dc) ∧ W.cell? ⟨g, k * 5 + 3, none⟩ = some (strV x.txt) ∧ W.cell? ⟨g, k * 5 + 4, none⟩ = some (.slice A m c) ∧
      (∀ j, W.frozen? ⟨g, j, none⟩ = false) ∧ NG W S D dn dc A m c x := by
  subst hn
  obtain ⟨xs, hr, hF⟩ := h
  obtain ⟨D, dn, dc, A, m, c, h0, h1, h2, h3, h4, h5⟩ := hF k x hx
  have hk : k < l.length := (List.getElem?_eq_some_iff.1 hx).1
  exact ⟨D, dn, dc, A, m, c, by rw [hr.cellAt (k * 5) (by omega)]; exact h0, by rw [hr.cellAt (k * 5 + 1) (by omega)]; exact h1, by rw [hr.cellAt (k * 5 + 2) (by omega)]; exact h2, by rw [hr.cellAt (k * 5 + 3) (by omega)]; exact h3, by rw [hr.cellAt (k * 5 + 4) (by omega)]; exact h4, fun j => hr.frozenAt _, h5⟩

theorem NCellsS.set {k : Nat} {D A : Option Addr} {dn dc n c : Nat} {y : Nm} (h : NCellsS W S l xs) (hl : xs.length = l.length * 5) (hy : NG W S D dn dc A n c y) :
    NCellsS W S (l.set k y) (((((xs.set (k * 5) (.int .i64 y.id.1)).set (k * 5 + 1) (.int .i64 y.id.2)).set (k * 5 + 2) (.slice D dn dc)).set (k * 5 + 3) (strV y.txt)).set (k * 5 + 4) (.slice A n c)) := fun p x hx => by
  by_cases hp : p = k
  · subst hp
    have hk : p < l.length := by
      have := (List.getElem?_eq_some_iff.1 hx).1
      simpa using this
    rw [List.getElem?_set_self hk] at hx
    injection hx with hx
    subst hx
    refine ⟨D, dn, dc, A, n, c, ?_, ?_, ?_, ?_, ?_, hy⟩
    · rw [List.getElem?_set_ne (by omega), List.getElem?_set_ne (by omega), List.getElem?_set_ne (by omega), List.getElem?_set_ne (by omega), List.getElem?_set_self (by omega)]
    · rw [List.getElem?_set_ne (by omega), List.getElem?_set_ne (by omega), List.getElem?_set_ne (by omega), List.getElem?_set_self (by simp; omega)]
    · rw [List.getElem?_set_ne (by omega), List.getElem?_set_ne (by omega), List.getElem?_set_self (by simp; omega)]
    · rw [List.getElem?_set_ne (by omega), List.getElem?_set_self (by simp; omega)]
    · rw [List.getElem?_set_self (by simp; omega)]
  · rw [List.getElem?_set_ne (fun e => hp e.symm)] at hx
    obtain ⟨D', dn', dc', A', n', c', h0, h1, h2, h3, h4, h5⟩ := h p x hx
    have ne : ∀ a b, a < 5 → b < 5 → k * 5 + a ≠ p * 5 + b := fun a b ha hb => by omega
    have n0 : ∀ b, b < 5 → k * 5 ≠ p * 5 + b := fun b hb => by omega
    have key : ∀ b, b < 5 → (((((xs.set (k * 5) (.int .i64 y.id.1)).set (k * 5 + 1) (.int .i64 y.id.2)).set (k * 5 + 2) (.slice D dn dc)).set (k * 5 + 3) (strV y.txt)).set (k * 5 + 4) (.slice A n c))[p * 5 + b]? = xs[p * 5 + b]? := fun b hb => by
      rw [List.getElem?_set_ne (ne 4 b (by decide) hb), List.getElem?_set_ne (ne 3 b (by decide) hb), List.getElem?_set_ne (ne 2 b (by decide) hb), List.getElem?_set_ne (ne 1 b (by decide) hb), List.getElem?_set_ne (n0 b hb)]
    exact ⟨D', dn', dc', A', n', c', (key 0 (by decide)).trans h0, (key 1 (by decide)).trans h1, (key 2 (by decide)).trans h2, (key 3 (by decide)).trans h3, (key 4 (by decide)).trans h4, h5⟩

/-- One of a row's patches stored anew. -/
theorem OwnT.store {g n cap k : Nat} {D A : Option Addr} {dn dc m c : Nat} {y : Nm} (h : OwnT W S base (.slice (some ⟨g, 0, none⟩) n cap) l) (hn : l.length = n) (hN : ¬ S g) (hy : NG W S D dn dc A m c y) :
    OwnT (((((W.setCell ⟨g, k * 5, none⟩ (.int .i64 y.id.1)).setCell ⟨g, k * 5 + 1, none⟩ (.int .i64 y.id.2)).setCell ⟨g, k * 5 + 2, none⟩ (.slice D dn dc)).setCell ⟨g, k * 5 + 3, none⟩ (strV y.txt)).setCell ⟨g, k * 5 + 4, none⟩ (.slice A m c)) S base (.slice (some ⟨g, 0, none⟩) n cap) (l.set k y) := by
  subst hn
  obtain ⟨xs, hr, hF⟩ := h
  obtain ⟨h0, _⟩ := hr.stored (k * 5) (.int .i64 y.id.1)
  obtain ⟨h1, _⟩ := h0.stored (k * 5 + 1) (.int .i64 y.id.2)
  obtain ⟨h2, _⟩ := h1.stored (k * 5 + 2) (.slice D dn dc)
  obtain ⟨h3, _⟩ := h2.stored (k * 5 + 3) (strV y.txt)
  obtain ⟨h4, _⟩ := h3.stored (k * 5 + 4) (.slice A m c)
  refine ⟨_, by rw [List.length_set]; exact h4, ?_⟩
  have al : ∀ (X : World) (p : Nat) (v : Value), Fl.Alike S X (X.setCell ⟨g, p, none⟩ v) := fun X p v => (alike_set X g p v).mono fun b hb e => hN (e ▸ hb)
  exact (((((hF.set hr.1 hy).to (al _ _ _)).to (al _ _ _)).to (al _ _ _)).to (al _ _ _)).to (al _ _ _)
end

section
variable {X w : World} {B b g : Nat} {t : TypeId} {cs : Array Value} {r : Option Nat}
theorem below_set5 (h : Below B w X) (hb : B ≤ b) (v0 v1 v2 v3 v4 : Value) : Below B w (((((X.setCell ⟨b, 0, none⟩ v0).setCell ⟨b, 1, none⟩ v1).setCell ⟨b, 2, none⟩ v2).setCell ⟨b, 3, none⟩ v3).setCell ⟨b, 4, none⟩ v4) :=
  ((((h.setCell (p := ⟨b, 0, none⟩) hb v0).setCell (p := ⟨b, 1, none⟩) hb v1).setCell (p := ⟨b, 2, none⟩) hb v2).setCell (p := ⟨b, 3, none⟩) hb v3).setCell (p := ⟨b, 4, none⟩) hb v4
theorem below_row5 (h : Below B w X) (hb : B ≤ g) (k : Nat) (v0 v1 v2 v3 v4 : Value) : Below B w (((((X.setCell ⟨g, k * 5, none⟩ v0).setCell ⟨g, k * 5 + 1, none⟩ v1).setCell ⟨g, k * 5 + 2, none⟩ v2).setCell ⟨g, k * 5 + 3, none⟩ v3).setCell ⟨g, k * 5 + 4, none⟩ v4) :=
  ((((h.setCell (p := ⟨g, k * 5, none⟩) hb v0).setCell (p := ⟨g, k * 5 + 1, none⟩) hb v1).setCell (p := ⟨g, k * 5 + 2, none⟩) hb v2).setCell (p := ⟨g, k * 5 + 3, none⟩) hb v3).setCell (p := ⟨g, k * 5 + 4, none⟩) hb v4
theorem blk_row5 (h : Blk X b t cs) (hne : b ≠ g) (k : Nat) (v0 v1 v2 v3 v4 : Value) : Blk (((((X.setCell ⟨g, k * 5, none⟩ v0).setCell ⟨g, k * 5 + 1, none⟩ v1).setCell ⟨g, k * 5 + 2, none⟩ v2).setCell ⟨g, k * 5 + 3, none⟩ v3).setCell ⟨g, k * 5 + 4, none⟩ v4) b t cs :=
  ((((h.set_ne hne (k * 5) v0).set_ne hne (k * 5 + 1) v1).set_ne hne (k * 5 + 2) v2).set_ne hne (k * 5 + 3) v3).set_ne hne (k * 5 + 4) v4
theorem blk_set5 (h : Blk X b t cs) (hne : b ≠ g) (v0 v1 v2 v3 v4 : Value) : Blk (((((X.setCell ⟨g, 0, none⟩ v0).setCell ⟨g, 1, none⟩ v1).setCell ⟨g, 2, none⟩ v2).setCell ⟨g, 3, none⟩ v3).setCell ⟨g, 4, none⟩ v4) b t cs :=
  ((((h.set_ne hne 0 v0).set_ne hne 1 v1).set_ne hne 2 v2).set_ne hne 3 v3).set_ne hne 4 v4
theorem blk5 {u0 u1 u2 u3 u4 : Value} (h : Blk X b t #[u0, u1, u2, u3, u4]) (v0 v1 v2 v3 v4 : Value) : Blk (((((X.setCell ⟨b, 0, none⟩ v0).setCell ⟨b, 1, none⟩ v1).setCell ⟨b, 2, none⟩ v2).setCell ⟨b, 3, none⟩ v3).setCell ⟨b, 4, none⟩ v4) b t #[v0, v1, v2, v3, v4] := by
  have h0 : Blk (X.setCell ⟨b, 0, none⟩ v0) b t #[v0, u1, u2, u3, u4] := h.set 0 v0
  have h1 : Blk ((X.setCell ⟨b, 0, none⟩ v0).setCell ⟨b, 1, none⟩ v1) b t #[v0, v1, u2, u3, u4] := h0.set 1 v1
  have h2 : Blk (((X.setCell ⟨b, 0, none⟩ v0).setCell ⟨b, 1, none⟩ v1).setCell ⟨b, 2, none⟩ v2) b t #[v0, v1, v2, u3, u4] := h1.set 2 v2
  have h3 : Blk ((((X.setCell ⟨b, 0, none⟩ v0).setCell ⟨b, 1, none⟩ v1).setCell ⟨b, 2, none⟩ v2).setCell ⟨b, 3, none⟩ v3) b t #[v0, v1, v2, v3, u4] := h2.set 3 v3
  exact h3.set 4 v4
theorem alike_row5 (X : World) (g k : Nat) (v0 v1 v2 v3 v4 : Value) : Fl.Alike (· ≠ g) X (((((X.setCell ⟨g, k * 5, none⟩ v0).setCell ⟨g, k * 5 + 1, none⟩ v1).setCell ⟨g, k * 5 + 2, none⟩ v2).setCell ⟨g, k * 5 + 3, none⟩ v3).setCell ⟨g, k * 5 + 4, none⟩ v4) := fun i h hl => by
  have al : ∀ (X : World) (j : Nat) (v : Value), i < X.heap.size → (X.setCell ⟨g, j, none⟩ v).heap[i]? = X.heap[i]? := fun X j v hx => alike_set X g j v i h hx
  rw [al _ _ _ (by simp; exact hl), al _ _ _ (by simp; exact hl), al _ _ _ (by simp; exact hl), al _ _ _ (by simp; exact hl), al _ _ _ hl]
theorem alike_set5 (X : World) (g : Nat) (v0 v1 v2 v3 v4 : Value) : Fl.Alike (· ≠ g) X (((((X.setCell ⟨g, 0, none⟩ v0).setCell ⟨g, 1, none⟩ v1).setCell ⟨g, 2, none⟩ v2).setCell ⟨g, 3, none⟩ v3).setCell ⟨g, 4, none⟩ v4) := fun i h hl => by
  have al : ∀ (X : World) (j : Nat) (v : Value), i < X.heap.size → (X.setCell ⟨g, j, none⟩ v).heap[i]? = X.heap[i]? := fun X j v hx => alike_set X g j v i h hx
  rw [al _ _ _ (by simp; exact hl), al _ _ _ (by simp; exact hl), al _ _ _ (by simp; exact hl), al _ _ _ (by simp; exact hl), al _ _ _ hl]
end

/-- The cells of a patch. -/
abbrev nmC (x : Nm) (D : Option Addr) (dn dc : Nat) (A : Option Addr) (n c : Nat) : Array Value := #[.int .i64 x.id.1, .int .i64 x.id.2, .slice D dn dc, strV x.txt, .slice A n c]
/-- A patch that has nothing. -/
def noN : Nm := ⟨(0, 0), [], [], []⟩
theorem ng_no (W : World) (S : Nat → Prop) : NG W S none 0 0 none 0 0 noN := ⟨rfl, Nat.le_refl _, by decide, .inl rfl, by decide, rfl, Nat.le_refl _, by decide, .inl rfl⟩

/-- The cells of m patches can be read. -/
def Cells5 (W : World) (A : Option Addr) (m : Nat) : Prop := ∀ i, i < m → ∃ a v0 v1 v2 v3 v4, A = some a ∧ W.cell? (a.add (i * 5)) = some v0 ∧ W.cell? ⟨(a.add (i * 5)).block, (a.add (i * 5)).off + 1, none⟩ = some v1 ∧ W.cell? ⟨(a.add (i * 5)).block, (a.add (i * 5)).off + 2, none⟩ = some v2 ∧
  W.cell? ⟨(a.add (i * 5)).block, (a.add (i * 5)).off + 3, none⟩ = some v3 ∧ W.cell? ⟨(a.add (i * 5)).block, (a.add (i * 5)).off + 4, none⟩ = some v4
theorem Cells5.kc {W W' : World} {A : Option Addr} {m : Nat} (h : Cells5 W A m) (hk : KeepC (fun _ => True) W W') : Cells5 W' A m := fun i hi => by
  obtain ⟨a, v0, v1, v2, v3, v4, e, h0, h1, h2, h3, h4⟩ := h i hi
  exact ⟨a, v0, v1, v2, v3, v4, e, hk.cell trivial h0, hk.cell trivial h1, hk.cell trivial h2, hk.cell trivial h3, hk.cell trivial h4⟩
theorem cells5_below {W W' : World} {A : Option Addr} {m : Nat} (h : Cells5 W A m) (hb : Below W.heap.size W W') : Cells5 W' A m := h.kc (keepC_below hb)
theorem cells5_rd {W : World} {B : Nat} {A : Option Addr} {l : List Nm} {m : Nat} (h : RdN W B A l) (hm : l.length = m) : Cells5 W A m := fun i hi => by
  obtain ⟨a, x, D, dn, dc, E, n, c, e, _, _, c0, c1, c2, c3, c4, _⟩ := h.elem (k := i) (by omega)
  exact ⟨a, _, _, _, _, _, e, c0, c1, c2, c3, c4⟩

end Tg
end Go.Proofs.Ytdnkinajbebkoaa

set_option maxRecDepth 100000
namespace Go.Proofs.Ytdnkinajbebkoaa
open Go.ChangeShapes Go.WideShapes Go.ChangeAt Go.RowKit
set_option linter.unusedVariables false
namespace Tg
open Tx Df Sq Hk Tr Pr Fl Pn

/-- Patches that can be read: what they hold lies in blocks that S names. -/
def Src (W : World) (S : Nat → Prop) (A : Option Addr) (u : List Nm) : Prop :=
  ∃ ys : List Value, ys.length = u.length * 5 ∧ NCellsS W S u ys ∧ (ys = [] ∨ ∃ a, A = some a ∧ a.block < W.heap.size ∧ ∀ (j : Nat) x, ys[j]? = some x → W.cell? (a.add j) = some x)
section
variable {W W' : World} {S T : Nat → Prop} {B base : Nat} {A : Option Addr} {v : Value} {l u : List Nm} {xs ys : List Value}
theorem Src.mono (h : Src W S A u) (hs : ∀ b, S b → T b) : Src W T A u := by
  obtain ⟨ys, h1, h2, h3⟩ := h
  exact ⟨ys, h1, h2.mono hs, h3⟩
theorem Src.below (h : Src W S A u) (hb : Below W.heap.size W W') : Src W' S A u := by
  obtain ⟨ys, h1, h2, h3⟩ := h
  refine ⟨ys, h1, h2.to (fun b _ hl => hb.block b hl), h3.imp id fun ⟨a, e, hl, hc⟩ => ⟨a, e, Nat.lt_of_lt_of_le hl hb.size, fun j x hx => ?_⟩⟩
  exact (hb.cell (by rw [add_block]; exact hl)).trans (hc j x hx)
theorem NCellsS.nil (W : World) (S : Nat → Prop) (xs : List Value) : NCellsS W S [] xs := fun k x hx => by simp at hx
theorem NCellsS.one {D A : Option Addr} {dn dc n c : Nat} {x : Nm} (h : NG W S D dn dc A n c x) : NCellsS W S [x] [.int .i64 x.id.1, .int .i64 x.id.2, .slice D dn dc, strV x.txt, .slice A n c] := fun k y hy => by
  cases k with
  | zero => cases hy; exact ⟨D, dn, dc, A, n, c, rfl, rfl, rfl, rfl, rfl, h⟩
  | succ k => simp at hy
theorem NCellsS.append (h : NCellsS W S l xs) (hl : xs.length = l.length * 5) (h' : NCellsS W S u ys) : NCellsS W S (l ++ u) (xs ++ ys) := fun k x hx => by
  by_cases hk : k < l.length
  · rw [List.getElem?_append_left hk] at hx
    obtain ⟨D, dn, dc, A, n, c, h0, h1, h2, h3, h4, h5⟩ := h k x hx
    exact ⟨D, dn, dc, A, n, c, by rw [List.getElem?_append_left (by omega)]; exact h0, by rw [List.getElem?_append_left (by omega)]; exact h1, by rw [List.getElem?_append_left (by omega)]; exact h2, by rw [List.getElem?_append_left (by omega)]; exact h3, by rw [List.getElem?_append_left (by omega)]; exact h4, h5⟩
  · rw [List.getElem?_append_right (by omega)] at hx
    obtain ⟨D, dn, dc, A, n, c, h0, h1, h2, h3, h4, h5⟩ := h' _ x hx
    have e : ∀ j, k * 5 + j - xs.length = (k - l.length) * 5 + j := fun j => by omega
    refine ⟨D, dn, dc, A, n, c, ?_, ?_, ?_, ?_, ?_, h5⟩
    · rw [List.getElem?_append_right (by omega), show k * 5 - xs.length = (k - l.length) * 5 by omega]; exact h0
    · rw [List.getElem?_append_right (by omega), e]; exact h1
    · rw [List.getElem?_append_right (by omega), e]; exact h2
    · rw [List.getElem?_append_right (by omega), e]; exact h3
    · rw [List.getElem?_append_right (by omega), e]; exact h4
theorem one_src {b : Nat} {x : Nm} {D A : Option Addr} {dn dc n c : Nat} (h : Blk W b 45 (nmC x D dn dc A n c)) (hx : NG W S D dn dc A n c x) : Src W S (some ⟨b, 0, none⟩) [x] :=
  ⟨_, rfl, NCellsS.one hx, .inr ⟨_, rfl, h.lt, fun j u hu => by
    have e : ∀ k, (⟨b, 0, none⟩ : Addr).add k = ⟨b, k, none⟩ := fun k => by unfold Addr.add; split <;> simp_all
    rw [e]
    match j, hu with
    | 0, hu => exact h.cell 0 hu
    | 1, hu => exact h.cell 1 hu
    | 2, hu => exact h.cell 2 hu
    | 3, hu => exact h.cell 3 hu
    | 4, hu => exact h.cell 4 hu
    | j + 5, hu => simp at hu⟩⟩
/-- Another row grows: what is held apart from it stays. -/
theorem OwnT.other {row : Option Nat} (h : OwnT W S base v l) (hg : W.grownBy W' row) (hv : v.ownBlock = none ∨ v.ownBlock ≠ row) (hS : ∀ b, S b → some b ≠ row) : OwnT W' S base v l := by
  obtain ⟨xs, h1, h2⟩ := h
  exact ⟨xs, h1.kept hg hv, h2.to ((alike_gr hg).mono hS)⟩
theorem NG.gr {row : Option Nat} {D A : Option Addr} {dn dc n c : Nat} {x : Nm} (h : NG W S D dn dc A n c x) (hg : W.grownBy W' row) (hS : ∀ b, S b → some b ≠ row) : NG W' S D dn dc A n c x := h.to_ ((alike_gr hg).mono hS)
theorem Src.gr {row : Option Nat} (h : Src W S A u) (hg : W.grownBy W' row) (hA : ∀ a, A = some a → some a.block ≠ row) (hS : ∀ b, S b → some b ≠ row) : Src W' S A u := by
  obtain ⟨ys, h1, h2, h3⟩ := h
  refine ⟨ys, h1, h2.to ((alike_gr hg).mono hS), h3.imp id fun ⟨a, e, hl, hc⟩ => ⟨a, e, Nat.lt_of_lt_of_le hl hg.size, fun j x hx => ?_⟩⟩
  have hb := hg.block a.block hl (hA a e)
  have hcj := hc j x hx
  unfold World.cell? at hcj ⊢
  rw [add_block] at hcj ⊢
  rw [hb]
  exact hcj
theorem run_ownT {ty : TypeId} {m c : Nat} (h : OwnT W S base v l) (hu : Src W S A u) (hm : u.length = m) (hn : l.length + m ≤ 100000) (hS : ∀ b, S b → b < W.heap.size ∧ some b ≠ v.ownBlock) (hbase : base ≤ W.heap.size) :
    ∃ v' W', (Builtin.append_ #[22, 22] ty #[v, .slice A m c]).run Try.prog W = .ok v' W' ∧ OwnT W' S base v' (l ++ u) ∧ W.grownBy W' v.ownBlock ∧ ∀ b, v'.ownBlock = some b → v.ownBlock = some b ∨ W.heap.size ≤ b := by
  obtain ⟨i0, hi0, hz0, hz1, hz2⟩ := info_parts info_named
  obtain ⟨ys, hyl, hU, hsrc⟩ := hu
  have h0 := h
  obtain ⟨xs, hrow, hF⟩ := h
  have h1 := one5 (hU.mono fun b hb => (hS b hb).1).cells hyl
  by_cases hm0 : m = 0
  · have hu0 : u = [] := List.eq_nil_of_length_eq_zero (by omega)
    subst hu0
    obtain ⟨A0, c0, rfl, hc0⟩ := ownT_slice h0
    subst hm0
    exact ⟨_, W, run_append_none Try.underlying22 hi0 hc0, by rw [List.append_nil]; exact ⟨xs, hrow, hF⟩, ⟨rfl, rfl, rfl, Nat.le_refl _, fun _ _ _ => rfl⟩, fun b h => .inl h⟩
  · obtain ⟨a, rfl, _, hcell⟩ : ∃ a, A = some a ∧ a.block < W.heap.size ∧ ∀ (j : Nat) x, ys[j]? = some x → W.cell? (a.add j) = some x := by
      rcases hsrc with hy | h
      · rw [hy] at hyl; simp at hyl; omega
      · exact h
    obtain ⟨g, cap, W', hr, r1, r2, r3, r4⟩ := run_append_lies (P := Try.prog) (w := W) 22 ty base 45 i0 _ 5 80 Try.underlying22 hi0 hz0 hz1 hz2 rfl (by decide) v l.length xs hrow a m c ys (by rw [hyl, hm]) hcell h1 (by omega) (by unfold maxLen; omega) (by omega) hbase W.heap.size rfl
    exact ⟨_, W', hr, ⟨xs ++ ys, by rw [List.length_append, hm]; exact r1, (hF.append hrow.1 hU).to ((alike_gr r2).mono fun b hb => (hS b hb).2)⟩, r2, fun b h => by
      injection h with h
      subst h
      exact r3.imp id fun e => Nat.le_of_eq e.symm⟩
/-- The same as a step of a drawn region. -/
theorem step_ownT {m c : Nat} {ops : Array Oper} {o : Oper} {a : Act} {K : Act → World → Prop} {Q : Exit → Act → World → Prop} {E : Prop} (hgd : o.guard = none) (s x : Operand)
    (ho : o.op = .call { callee := .builtin .append, args := #[s, x], argTypes := #[22, 22] }) (hs : a.eval s = v) (hx : a.eval x = .slice A m c)
    (h : OwnT W S base v l) (hu : Src W S A u) (hm : u.length = m) (hn : l.length + m ≤ 100000) (hS : ∀ b, S b → b < W.heap.size ∧ some b ≠ v.ownBlock) (hbase : base ≤ W.heap.size)
    (hK : ∀ v' W', OwnT W' S base v' (l ++ u) → W.grownBy W' v.ownBlock → (∀ b, v'.ownBlock = some b → v.ownBlock = some b ∨ W.heap.size ≤ b) → K (a.put o.dst v') W') : if Region.wanted o (yielded ops a.tmps) = true then Oper.wp Try.prog o a W K Q else E := by
  have hw : Region.wanted o (yielded ops a.tmps) = true := by simp [Region.wanted, hgd]
  rw [if_pos hw]
  obtain ⟨v', W', hrun, h4, h5, h6⟩ := run_ownT (ty := o.type) (c := c) h hu hm hn hS hbase
  unfold Oper.wp execOp
  simp only [ho, resolve, invoke, builtin, Sem.run_bind, Sem.run_pure, Result.andThen_ok, List.map_toArray, List.map_cons, List.map_nil, hs, hx, hrun]
  exact hK v' W' h4 h5 h6
end

end Tg
end Go.Proofs.Ytdnkinajbebkoaa

set_option maxRecDepth 100000
namespace Go.Proofs.Ytdnkinajbebkoaa
open Go.RowKit
set_option linter.unusedVariables false
set_option linter.unusedSimpArgs false
namespace Pn
open Tx Df Sq Hk Tr Pr Fl

/-- Whether two ids are the same. -/
theorem eq_id (a b c d : Int) (w : World) : (Op.equalIn 10000 42 (.agg #[.int .i64 a, .int .i64 b]) (.agg #[.int .i64 c, .int .i64 d])).run Try.prog w = .ok (decide ((a, b) = (c, d))) w := by
  rw [show (10000 : Nat) = 9999 + 1 from rfl]
  go_simp
  by_cases h1 : a = c <;> by_cases h2 : b = d <;> simp [h1, h2]
/-- Is a patch light? -/
def lightN (p : Nm) (most : Nat) : Bool := fewP p.l most && (decide (p.deps.length ≤ 100) && decide (p.txt.length ≤ 200))
def fewN (l : List Nm) (most : Nat) : Bool := decide (l.length ≤ most) && l.all (lightN · 10)
theorem fewN_no {l : List Nm} {x : Nm} {k most : Nat} (hx : l[k]? = some x) (h : lightN x 10 = false) : fewN l most = false := by
  have : l.all (lightN · 10) = false := by
    rw [List.all_eq_false]
    exact ⟨x, List.mem_of_getElem? hx, by rw [h]; decide⟩
  unfold fewN
  rw [this, Bool.and_false]

theorem fewN_len {l : List Nm} {most : Nat} (h : fewN l most = true) : l.length ≤ most := by
  unfold fewN at h
  simp only [Bool.and_eq_true, decide_eq_true_eq] at h
  exact h.1
theorem fewN_all {l : List Nm} {most : Nat} (h : fewN l most = true) : ∀ x ∈ l, lightN x 10 = true := by
  unfold fewN at h
  rw [Bool.and_eq_true, List.all_eq_true] at h
  exact h.2
theorem okP_light {x : Ch} (h : okP x = true) : lightP x = true := by
  unfold okP at h
  rw [Bool.and_eq_true] at h
  exact h.1
set_option maxHeartbeats 2000000 in
theorem LightN (D : Option Addr) (dn dc : Nat) (A : Option Addr) (n c most : Nat) (p : Nm) (w : World) (b : Bool) (hm : most ≤ 1000) (hv : NV w w.heap.size D dn dc A n c p) (hb : lightN p most = b) :
    Calls Try.prog 27 #[nmV p.id D dn dc p.txt A n c, .int .i64 (most : Int)] w (BoolEnd w b) := by
  obtain ⟨id, ds, t, l⟩ := p
  have HV := Lib.hid hv; have HB := Lib.hid hb.symm
  have HBX := Lib.hid (Blk.new w 45 #[.int .i64 id.1, .int .i64 id.2, .slice D dn dc, strV t, .slice A n c])
  have hba : Below w.heap.size w (w.alloc (.cells #[.int .i64 id.1, .int .i64 id.2, .slice D dn dc, strV t, .slice A n c] 45)) := (Below.refl _ _).alloc (Nat.le_refl _) _
  have HBA := Lib.hid hba
  have HTL := Lib.hid (size_strV t)
  clear hv hb hba
  dsimp only
  go_enter Try.func27, Try.ntmps27
  go_wp2_with fail
  obtain ⟨bl, hbl⟩ : ∃ b, fewP l most = b := ⟨_, rfl⟩
  have hv := HV.out.mv HBA.out
  refine (Fl.Few A n c most l _ bl hm ⟨hv.l, hv.k, hv.m, hv.r⟩ hbl).mono ?_
  rintro e w2 ⟨rfl, hb2⟩
  have HBL := Lib.hid hbl
  have hbw := below_mv HBA.out hb2
  have HBW := Lib.hid hbw
  have b2 := HBX.out.below hb2 HBX.out.lt
  have x1 := b2.cell 2 rfl
  have x2 := b2.cell 3 rfl
  have HDL := Lib.hid hv.dl
  clear hbl hv hb2 hbw b2
  cases bl with
  | false =>
    go_wp2
    go_ret
    exact ⟨ret_bool (by rw [HB.out]; unfold lightN; rw [HBL.out]; rfl), HBW.out⟩
  | true =>
    go_wp2
    all_goals go_ret
    all_goals refine ⟨ret_bool ?_, HBW.out⟩
    all_goals rw [HB.out]; unfold lightN; rw [HBL.out]; dsimp only at HDL ⊢; rw [HDL.out]
    all_goals rw [Bool.true_and, Bool.eq_iff_iff]
    all_goals simp only [Bool.and_eq_true, decide_eq_true_eq, Bool.false_eq_true]
    all_goals constructor <;> intro hz
    all_goals first | omega | exact hz.elim | (exfalso; omega)

set_option maxHeartbeats 2000000 in
theorem FewN (A : Option Addr) (n c most : Nat) (l : List Nm) (w : World) (b : Bool) (hm : most ≤ 1000) (h : NmsArg w A n c l) (hb : fewN l most = b) :
    Calls Try.prog 11 #[.slice A n c, .int .i64 (most : Int)] w (BoolEnd w b) := by
  have HR := Lib.hid h.rd; have HN := Lib.hid h.len
  have HB := Lib.hid hb.symm
  have hle := h.le
  clear h hb
  unfold maxLen at hle
  go_enter Try.func11, Try.ntmps11
  by_cases h0 : (most : Int) < (n : Int)
  · go_wp2
    go_ret
    exact ⟨ret_bool (by rw [HB.out]; unfold fewN; rw [HN.out, decide_eq_false (by omega)]; rfl), Below.refl _ _⟩
  · go_wp2
    go_loopw [5] (fun i wr => ∃ k : Nat, k ≤ n ∧ i = .int .i64 (k : Int) ∧ (l.take k).all (lightN · 10) = true ∧ Below w.heap.size w wr) (fun i _ => n - (intOf i).toNat)
    case atStart => exact ⟨0, Nat.zero_le _, rfl, rfl, Below.refl _ _⟩
    case round =>
      obtain ⟨k, hk, rfl, hall, hbw⟩ := hrel
      have HBW := Lib.hid hbw; have HAL := Lib.hid hall; clear hbw hall
      by_cases hlt : k < n
      · have hki : (k : Int) < (n : Int) := by omega
        obtain ⟨a, x, D, i, j, E, m, d, rfl, hS, hx, c0, c1, c2, c3, c4, c5⟩ := ((HR.out.mv HBW.out).elem (k := k) (by rw [HN.out]; exact hlt))
        have HX := Lib.hid hx; have HP := Lib.hid c5; clear hx c5 hS
        go_wp2_with fail
        obtain ⟨bl, hbl⟩ : ∃ b, lightN x 10 = b := ⟨_, rfl⟩
        refine (LightN D i j E m d 10 x _ bl (by decide) HP.out hbl).mono ?_
        rintro e w2 ⟨rfl, hb2⟩
        have HBL := Lib.hid hbl; clear hbl
        have hbw2 := below_mv HBW.out hb2
        have HBW2 := Lib.hid hbw2; clear hbw2 c0 c1 c2 c3 c4 hb2
        cases bl with
        | false =>
          go_wp2
          go_ret
          exact ⟨ret_bool (by rw [HB.out, fewN_no HX.out HBL.out]), HBW2.out⟩
        | true =>
          go_wp2_with fail
          refine ⟨⟨k + 1, by omega, by go_num, ?_, HBW2.out⟩, by simp [intOf]; omega⟩
          rw [take_at HX.out, List.all_append, HAL.out]
          simp [HBL.out]
      · go_wp2
        go_ret
        refine ⟨ret_bool ?_, HBW.out⟩
        have ek : l.take k = l := List.take_of_length_le (by rw [HN.out]; omega)
        have hall := HAL.out
        rw [ek] at hall
        rw [HB.out]
        unfold fewN
        rw [hall, HN.out, decide_eq_true (by omega)]
        rfl

theorem findN_at {l : List Nm} {id : Id_} {k : Nat} {x : Nm} (hx : l[k]? = some x) (h : x.id = id) (hb : ∀ (j : Nat) (y : Nm), l[j]? = some y → j < k → y.id ≠ id) : findN l id = (k : Int) := by
  have key : l.findIdx? (fun p => decide (p.id = id)) = some k := by
    rw [List.findIdx?_eq_some_iff_getElem]
    obtain ⟨hk, e⟩ := List.getElem?_eq_some_iff.1 hx
    refine ⟨hk, by rw [e]; exact decide_eq_true h, fun j hj => ?_⟩
    have := hb j _ (List.getElem?_eq_getElem (by omega)) hj
    simpa using this
  unfold findN
  rw [key]
theorem findN_no {l : List Nm} {id : Id_} (h : ∀ (j : Nat) (y : Nm), l[j]? = some y → y.id ≠ id) : findN l id = -1 := by
  have key : l.findIdx? (fun p => decide (p.id = id)) = none := by
    rw [List.findIdx?_eq_none_iff]
    intro x hx
    obtain ⟨j, hj⟩ := List.getElem?_of_mem hx
    exact decide_eq_false (h j x hj)
  unfold findN
  rw [key]

attribute [local go_sem] eq_id
theorem find1 (x y : Id_) (D : Option Addr) (dn dc : Nat) (t : List UInt8) (A : Option Addr) (n c g : Nat) (W : World) (hc0 : W.cell? ⟨g, 0, none⟩ = some (.int .i64 y.1)) (hc1 : W.cell? ⟨g, 1, none⟩ = some (.int .i64 y.2)) (hg : g < W.heap.size) (b : Bool) (hb : decide (x = y) = b) :
    Calls Try.prog 47 #[nmV x D dn dc t A n c, .pointer (some ⟨g, 0, none⟩)] W (BoolEnd W b) := by
  obtain ⟨x, u⟩ := x
  obtain ⟨y, v⟩ := y
  dsimp only at hc0 hc1 ⊢
  have HB := Lib.hid hb; clear hb
  go_enter Try.func47, Try.ntmps47
  go_wp2
  all_goals go_ret
  all_goals refine ⟨ret_bool ?_, (Below.refl _ _).alloc (Nat.le_refl _) _⟩
  all_goals rw [← HB.out]
  all_goals simp_all

set_option maxHeartbeats 1000000 in
theorem IndexN (id : Id_) (A : Option Addr) (c n g : Nat) (l : List Nm) (w : World) (hn : l.length = n) (hln : n ≤ 1000000) (hR : RdN w w.heap.size A l) (hg : g < w.heap.size) (hc0 : w.cell? ⟨g, 0, none⟩ = some (.int .i64 id.1)) (hc1 : w.cell? ⟨g, 1, none⟩ = some (.int .i64 id.2)) :
    Calls Try.prog 46 #[.slice A n c, .func (.func 47) #[] #[.pointer (some ⟨g, 0, none⟩)]] w (IntEnd w (findN l id)) := by
  have HN := Lib.hid hn; have HR := Lib.hid hR; have HC0 := Lib.hid hc0; have HC1 := Lib.hid hc1; have HG := Lib.hid hg
  clear hn hR hc0 hc1 hg
  obtain ⟨iv, hiv⟩ : ∃ iv, findN l id = iv := ⟨_, rfl⟩
  rw [hiv]
  have HIV := Lib.hid hiv; clear hiv
  go_enter Try.func46, Try.ntmps46
  go_wp2_with fail
  go_loopw [8] (fun i wr => ∃ k : Nat, k ≤ n ∧ i = .int .i64 (k : Int) ∧ (∀ (j : Nat) (y : Nm), l[j]? = some y → j < k → y.id ≠ id) ∧ Below w.heap.size w wr) (fun i _ => n - (intOf i).toNat)
  case atStart => exact ⟨0, Nat.zero_le _, rfl, fun j _ _ hj => by omega, Below.refl _ _⟩
  case round =>
    obtain ⟨k, hk, rfl, hall, hbw⟩ := hrel
    have HA := Lib.hid hall; have HBW := Lib.hid hbw; clear hall hbw
    by_cases hlt : k < n
    · have hki : (k : Int) < (n : Int) := by omega
      obtain ⟨a, x, D, i, j, E, m, d, rfl, hS, hx, c0, c1, c2, c3, c4, c5⟩ := ((HR.out.mv HBW.out).elem (k := k) (by rw [HN.out]; exact hlt))
      have HX := Lib.hid hx
      have C0 := Lib.hid ((HBW.out.cell (p := ⟨g, 0, none⟩) HG.out).trans HC0.out)
      have C1 := Lib.hid ((HBW.out.cell (p := ⟨g, 1, none⟩) HG.out).trans HC1.out)
      clear hx c5 hS
      obtain ⟨bl, hbl⟩ : ∃ b, decide (x.id = id) = b := ⟨_, rfl⟩
      have HBL := Lib.hid hbl; clear hbl
      go_wp2_with fail
      refine (find1 x.id id D i j x.txt E m d g _ C0.out C1.out (Nat.lt_of_lt_of_le HG.out HBW.out.size) bl HBL.out).mono ?_
      rintro e w2 ⟨rfl, hb2⟩
      have HBW2 := Lib.hid (below_mv HBW.out hb2)
      clear c0 c1 c2 c3 c4 hb2
      cases bl with
      | true =>
        have HE : Hid (iv = (k : Int)) := Lib.hid (by rw [← HIV.out]; exact findN_at HX.out (of_decide_eq_true HBL.out) HA.out)
        go_wp2
        go_ret
        exact ⟨by rw [HE.out]; rfl, HBW2.out⟩
      | false =>
        go_wp2_with fail
        refine ⟨⟨k + 1, by omega, by go_num, fun j y hy hj => ?_, HBW2.out⟩, by simp [intOf]; omega⟩
        by_cases e : j = k
        · subst e
          have h1 := HX.out
          rw [h1] at hy
          injection hy with hy
          subst hy
          exact of_decide_eq_false HBL.out
        · exact HA.out j y hy (by omega)
    · have HE : Hid (iv = -1) := Lib.hid (by
        rw [← HIV.out]
        exact findN_no fun j y hy => HA.out j y hy (by have := (List.getElem?_eq_some_iff.1 hy).1; have := HN.out; omega))
      go_wp2
      go_ret
      exact ⟨by rw [HE.out]; rfl, HBW.out⟩
theorem FindN (id : Id_) (A : Option Addr) (n c : Nat) (l : List Nm) (w : World) (hn : l.length = n) (hln : n ≤ 1000000) (hR : RdN w w.heap.size A l) :
    Calls Try.prog 24 #[.slice A n c, .agg #[.int .i64 id.1, .int .i64 id.2]] w (IntEnd w (findN l id)) := by
  have HN := Lib.hid hn; have HR := Lib.hid hR
  clear hn hR
  have b0 := Blk.new w 42 #[.int .i64 id.1, .int .i64 id.2]
  have hba : Below w.heap.size w (w.alloc (.cells #[.int .i64 id.1, .int .i64 id.2] 42)) := (Below.refl _ _).alloc (Nat.le_refl _) _
  have HB0 := Lib.hid b0; have HBA := Lib.hid hba
  clear b0 hba
  go_enter Try.func24, Try.ntmps24
  go_wp2_with fail
  refine (IndexN id A c n w.heap.size l _ HN.out hln (HR.out.mv HBA.out) HB0.out.lt (HB0.out.cell 0 rfl) (HB0.out.cell 1 rfl)).mono ?_
  rintro e w2 ⟨rfl, hb2⟩
  have HBW := Lib.hid (below_mv HBA.out hb2)
  clear hb2
  go_wp2
  go_ret
  exact ⟨rfl, HBW.out⟩

end Pn
end Go.Proofs.Ytdnkinajbebkoaa

set_option maxRecDepth 100000
namespace Go.Proofs.Ytdnkinajbebkoaa
open Go.RowKit
set_option linter.unusedVariables false
namespace Fl
open Tx Df Sq Hk Tr Pr

section
variable {α : Type} (P : α → α → Option (α × α))
theorem one_none_app {a b : List α} {q : α} (h : one P b q = none) : one P (a ++ b) q = none := by rw [one_app, h]; rfl
theorem one_step {l post : List α} {k : Nat} {p q q1 x y : α} (hx : l[k]? = some p) (h : one P (l.drop (k + 1)) q = some (q1, post)) (h1 : P p q1 = some (x, y)) : one P (l.drop k) q = some (x, y :: post) := by
  rw [drop_at hx]; exact one_cons P h h1
theorem one_step_none {l post : List α} {k : Nat} {p q q1 : α} (hx : l[k]? = some p) (h : one P (l.drop (k + 1)) q = some (q1, post)) (h1 : P p q1 = none) : one P l q = none := by
  have h2 : one P (l.drop k) q = none := by rw [drop_at hx, one, h, Option.bind_some, h1]; rfl
  rw [← List.take_append_drop k l]
  exact one_none_app P h2
theorem passL_step {a b x cur a1 : List α} {k : Nat} {q q1 : α} (h : passL P a (b.take k) = some (x, cur)) (hx : b[k]? = some q) (h1 : one P cur q = some (q1, a1)) : passL P a (b.take (k + 1)) = some (x ++ [q1], a1) := by
  rw [take_at hx, passL_app2, h, Option.bind_some, passL_cons P h1 (passL_nil P a1)]; rfl
theorem passL_step_none {a b x cur : List α} {k : Nat} {q : α} (h : passL P a (b.take k) = some (x, cur)) (hx : b[k]? = some q) (h1 : one P cur q = none) : passL P a b = none := by
  rw [← List.take_append_drop k b, passL_app2, h, Option.bind_some, drop_at hx, passL, h1]; rfl
theorem one_all {Q : α → Prop} (hP : ∀ {p q x y}, P p q = some (x, y) → Q p → Q q → Q x ∧ Q y) : ∀ {a : List α} {q x : α} {y : List α}, one P a q = some (x, y) → (∀ z ∈ a, Q z) → Q q → Q x ∧ ∀ z ∈ y, Q z
  | [], q, x, y, h, ha, hq => by
    injection h with h
    injection h with h1 h2
    subst h1 h2
    exact ⟨hq, ha⟩
  | p :: a, q, x, y, h, ha, hq => by
    obtain ⟨q1, a1, z, h1, h2, rfl⟩ := one_cons_inv P h
    obtain ⟨i1, i2⟩ := one_all hP h1 (fun z hz => ha z (.tail _ hz)) hq
    obtain ⟨j1, j2⟩ := hP h2 (ha p (.head _)) i1
    exact ⟨j1, fun u hu => by
      cases hu with
      | head => exact j2
      | tail _ h => exact i2 u h⟩
theorem passL_all {Q : α → Prop} (hP : ∀ {p q x y}, P p q = some (x, y) → Q p → Q q → Q x ∧ Q y) : ∀ {b a x y : List α}, passL P a b = some (x, y) → (∀ z ∈ a, Q z) → (∀ z ∈ b, Q z) → (∀ z ∈ x, Q z) ∧ ∀ z ∈ y, Q z
  | [], a, x, y, h, ha, hb => by
    rw [passL_nil] at h
    injection h with h
    injection h with h1 h2
    subst h1 h2
    exact ⟨hb, ha⟩
  | q :: b, a, x, y, h, ha, hb => by
    obtain ⟨q1, a1, b1, h1, h2, rfl⟩ := passL_cons_inv P h
    obtain ⟨i1, i2⟩ := one_all P hP h1 ha (hb q (.head _))
    obtain ⟨j1, j2⟩ := passL_all hP h2 i2 (fun z hz => hb z (.tail _ hz))
    exact ⟨fun u hu => by
      cases hu with
      | head => exact i1
      | tail _ h => exact j1 u h, j2⟩
end

/-- Light changes. -/
def Lt (l : List Ch) : Prop := ∀ x ∈ l, lightP x = true
theorem passP_lt {p q x y : Ch} (h : passP p q = some (x, y)) (hp : lightP p = true) (hq : lightP q = true) : lightP x = true ∧ lightP y = true := way_light (passP_way h).2.2 hp hq
theorem one_lt {a y : List Ch} {q x : Ch} (h : one passP a q = some (x, y)) (ha : Lt a) (hq : lightP q = true) : lightP x = true ∧ Lt y := one_all passP passP_lt h ha hq
theorem passF_lt {a b x y : List Ch} (h : passF a b = some (x, y)) (ha : Lt a) (hb : Lt b) : Lt x ∧ Lt y := passL_all passP passP_lt h ha hb
theorem Lt.app {a b : List Ch} (ha : Lt a) (hb : Lt b) : Lt (a ++ b) := fun x hx => (List.mem_append.1 hx).elim (ha x) (hb x)
theorem Lt.tail {a : Ch} {l : List Ch} (h : Lt (a :: l)) : Lt l := fun x hx => h x (.tail _ hx)
theorem turnP_lt {p : Ch} (h : lightP p = true) : lightP (turnP p) = true := by
  unfold lightP at h ⊢
  simp only [Bool.and_eq_true, decide_eq_true_eq] at h ⊢
  by_cases h0 : p.k = 0
  · rw [turnP_0 h0]; exact h
  by_cases h1 : p.k = 1
  · rw [turnP_1 h1]; exact h
  by_cases h2 : p.k = 2
  · rw [turnP_2 h2]; exact ⟨h.1, h.2.2, h.2.1⟩
  rw [turnP_h h0 h1 h2]; exact ⟨⟨h.1.2, h.1.1⟩, h.2⟩
theorem Lt.turn {l : List Ch} (h : Lt l) : Lt (turnF l) := fun x hx => by
  unfold turnF at hx
  rw [List.mem_reverse, List.mem_map] at hx
  obtain ⟨p, hp, rfl⟩ := hx
  exact turnP_lt (h p hp)
theorem lt_len {W : World} {S : Nat → Prop} {A B : Option Addr} {n c m d : Nat} {p : Ch} (h : PG W S A n c B m d p) (hp : lightP p = true) : n ≤ 1000 ∧ m ≤ 1000 := by
  obtain ⟨h1, h2⟩ := lightP_h hp
  rw [h.l] at h1
  rw [h.l'] at h2
  omega

end Fl
end Go.Proofs.Ytdnkinajbebkoaa

set_option maxRecDepth 100000
namespace Go.Proofs.Ytdnkinajbebkoaa
open Go.RowKit
set_option linter.unusedVariables false
namespace Sw
open Tx Df Hk

/-- How a call ends that tells the lines that are handed in, as they are. -/
def PassEndE (A : Option Addr) (n c : Nat) (A' : Option Addr) (n' c' : Nat) (D : Option Addr) (m k : Nat) (D' : Option Addr) (m' k' : Nat) (w : World) (o : Option (HU × HU)) (e : Ending) (w' : World) : Prop :=
  (∀ z, o = some z → e = .returned (.tuple #[hkV z.1.pos D m k D' m' k', hkV z.2.pos A n c A' n' c', .bool true])) ∧
  (o = none → e = .returned (.tuple #[hkV 0 none 0 0 none 0 0, hkV 0 none 0 0 none 0 0, .bool false])) ∧ Below w.heap.size w w'
section
variable {A A' D D' : Option Addr} {n c n' c' m k m' k' : Nat} {w w' : World} {o : Option (HU × HU)} {e : Ending}
theorem PassEndE.end_ {B : Nat} {p q : HU} (h : PassEndE A n c A' n' c' D m k D' m' k' w (passH p q) e w') (hB : B ≤ w.heap.size) (hv : HV w B A n c A' n' c' p) (gv : HV w B D m k D' m' k' q) : PassEnd w (passH p q) e w' := by
  obtain ⟨h1, h2, hb⟩ := h
  cases ho : passH p q with
  | none => rw [h2 ho]; exact passEnd_none rfl hb
  | some z =>
    have e1 := h1 z ho
    obtain ⟨_, b1, b2, b3, b4⟩ := pass_moves (x := z.1) (y := z.2) (passH_may (z := z) ho).2.2.1
    obtain ⟨a1, a2⟩ := pass_pos (x := z.1) (y := z.2) (passH_may (z := z) ho).2.2.1 (mayH_pos (passH_may ho).1).1 (mayH_pos (passH_may ho).2.1).1
    have l1 := (passH_may ho).2.2.2.1; have l2 := (passH_may ho).2.2.2.2
    have hv' := (hv.below (hb.mono hB)).up (Nat.le_trans hB hb.size); have gv' := (gv.below (hb.mono hB)).up (Nat.le_trans hB hb.size)
    refine ⟨D, m, k, D', m', k', A, n, c, A', n', c', e1, ?_, ?_, hb⟩
    · exact ⟨by show z.1.old.length = m; rw [b1]; exact gv.l, by show z.1.new.length = m'; rw [b2]; exact gv.l', gv.k, gv.k', gv.m, gv.m', by show RdS _ _ _ z.1.old; rw [b1]; exact gv'.r, by show RdS _ _ _ z.1.new; rw [b2]; exact gv'.r', ⟨by show _ ≤ z.1.pos; omega, by show z.1.pos ≤ _; omega⟩⟩
    · exact ⟨by show z.2.old.length = n; rw [b3]; exact hv.l, by show z.2.new.length = n'; rw [b4]; exact hv.l', hv.k, hv.k', hv.m, hv.m', by show RdS _ _ _ z.2.old; rw [b3]; exact hv'.r, by show RdS _ _ _ z.2.new; rw [b4]; exact hv'.r', ⟨by show _ ≤ z.2.pos; omega, by show z.2.pos ≤ _; omega⟩⟩
end

end Sw
end Go.Proofs.Ytdnkinajbebkoaa

set_option maxRecDepth 100000
namespace Go.Proofs.Ytdnkinajbebkoaa
open Go.RowKit
set_option linter.unusedVariables false
set_option linter.unusedSimpArgs false
namespace Pr
open Tx Df Sq Hk Tr

section
variable {p q : Ch}
theorem passP_no1 (h : mayP p = false) : passP p q = none := by unfold passP; rw [if_pos (.inl h)]
theorem passP_no2 (h : mayP q = false) : passP p q = none := by unfold passP; rw [if_pos (.inr h)]
theorem passP_ap (hp : mayP p = true) (hq : mayP q = true) (h : apartP p q = true) : passP p q = some (q, p) := passP_apart hp hq (apartP_iff.1 h)
theorem passP_b (hp : mayP p = true) (hq : mayP q = true) (h : apartP p q = false) (kp : p.k = 3) (kq : q.k = 3) : passP p q = (Sw.passH p.h q.h).map fun z => (⟨q.k, q.nm, q.to, z.1⟩, ⟨p.k, p.nm, p.to, z.2⟩) := by
  unfold passP
  rw [if_neg (may_not hp hq), if_neg (by rw [h]; decide), if_pos ⟨kp, kq⟩]
theorem passP_o (hp : mayP p = true) (hq : mayP q = true) (h : apartP p q = false) (kp : p.k = 2) (kq : q.k = 3 ∨ q.k = 4) (hn : q.nm = p.to) : passP p q = some (⟨q.k, p.nm, q.to, q.h⟩, p) := by
  unfold passP
  rw [if_neg (may_not hp hq), if_neg (by rw [h]; decide), if_neg (by omega), if_pos ⟨kp, kq, hn⟩]
theorem passP_i (hp : mayP p = true) (hq : mayP q = true) (h : apartP p q = false) (kq : q.k = 2) (kp : p.k = 3 ∨ p.k = 4) (hn : p.nm = q.nm) : passP p q = some (q, ⟨p.k, q.to, p.to, p.h⟩) := by
  unfold passP
  rw [if_neg (may_not hp hq), if_neg (by rw [h]; decide), if_neg (by omega), if_neg (by omega), if_pos ⟨kq, kp, hn⟩]
theorem passP_n (h : apartP p q = false) (h3 : ¬ (p.k = 3 ∧ q.k = 3)) (ho : ¬ (p.k = 2 ∧ (q.k = 3 ∨ q.k = 4) ∧ q.nm = p.to)) (hi : ¬ (q.k = 2 ∧ (p.k = 3 ∨ p.k = 4) ∧ p.nm = q.nm)) : passP p q = none := by
  unfold passP
  by_cases hm : mayP p = false ∨ mayP q = false
  · rw [if_pos hm]
  · rw [if_neg hm, if_neg (show ¬ apartP p q = true by rw [h]; decide), if_neg h3, if_neg ho, if_neg hi]
end

/-- Two changes stored, one behind the other. -/
theorem two_set6 {W : World} {b b' : Nat} {t : TypeId} {x0 x1 x2 x3 x4 x5 y0 y1 y2 y3 y4 y5 : Value} (h : Blk W b t #[x0, x1, x2, x3, x4, x5]) (h' : Blk W b' t #[y0, y1, y2, y3, y4, y5]) (hne : b ≠ b') (v0 v1 v2 v3 v4 v5 u0 u1 u2 u3 u4 u5 : Value) :
    Blk ((((((((((((W.setCell ⟨b, 0, none⟩ v0).setCell ⟨b, 1, none⟩ v1).setCell ⟨b, 2, none⟩ v2).setCell ⟨b, 3, none⟩ v3).setCell ⟨b, 4, none⟩ v4).setCell ⟨b, 5, none⟩ v5).setCell ⟨b', 0, none⟩ u0).setCell ⟨b', 1, none⟩ u1).setCell ⟨b', 2, none⟩ u2).setCell ⟨b', 3, none⟩ u3).setCell ⟨b', 4, none⟩ u4).setCell ⟨b', 5, none⟩ u5) b t #[v0, v1, v2, v3, v4, v5] ∧
    Blk ((((((((((((W.setCell ⟨b, 0, none⟩ v0).setCell ⟨b, 1, none⟩ v1).setCell ⟨b, 2, none⟩ v2).setCell ⟨b, 3, none⟩ v3).setCell ⟨b, 4, none⟩ v4).setCell ⟨b, 5, none⟩ v5).setCell ⟨b', 0, none⟩ u0).setCell ⟨b', 1, none⟩ u1).setCell ⟨b', 2, none⟩ u2).setCell ⟨b', 3, none⟩ u3).setCell ⟨b', 4, none⟩ u4).setCell ⟨b', 5, none⟩ u5) b' t #[u0, u1, u2, u3, u4, u5] :=
  ⟨((((((blk6 h v0 v1 v2 v3 v4 v5).set_ne hne 0 u0).set_ne hne 1 u1).set_ne hne 2 u2).set_ne hne 3 u3).set_ne hne 4 u4).set_ne hne 5 u5,
   blk6 ((((((h'.set_ne hne.symm 0 v0).set_ne hne.symm 1 v1).set_ne hne.symm 2 v2).set_ne hne.symm 3 v3).set_ne hne.symm 4 v4).set_ne hne.symm 5 v5) u0 u1 u2 u3 u4 u5⟩
theorem below_set12 {B : Nat} {w W : World} {b b' : Nat} (h : Below B w W) (hb : B ≤ b) (hb' : B ≤ b') (v0 v1 v2 v3 v4 v5 u0 u1 u2 u3 u4 u5 : Value) :
    Below B w ((((((((((((W.setCell ⟨b, 0, none⟩ v0).setCell ⟨b, 1, none⟩ v1).setCell ⟨b, 2, none⟩ v2).setCell ⟨b, 3, none⟩ v3).setCell ⟨b, 4, none⟩ v4).setCell ⟨b, 5, none⟩ v5).setCell ⟨b', 0, none⟩ u0).setCell ⟨b', 1, none⟩ u1).setCell ⟨b', 2, none⟩ u2).setCell ⟨b', 3, none⟩ u3).setCell ⟨b', 4, none⟩ u4).setCell ⟨b', 5, none⟩ u5) :=
  (((((((((((h.setCell (p := ⟨b, 0, none⟩) hb v0).setCell (p := ⟨b, 1, none⟩) hb v1).setCell (p := ⟨b, 2, none⟩) hb v2).setCell (p := ⟨b, 3, none⟩) hb v3).setCell (p := ⟨b, 4, none⟩) hb v4).setCell (p := ⟨b, 5, none⟩) hb v5).setCell (p := ⟨b', 0, none⟩) hb' u0).setCell (p := ⟨b', 1, none⟩) hb' u1).setCell (p := ⟨b', 2, none⟩) hb' u2).setCell (p := ⟨b', 3, none⟩) hb' u3).setCell (p := ⟨b', 4, none⟩) hb' u4).setCell (p := ⟨b', 5, none⟩) hb' u5
theorem three_set {W : World} {b : Nat} {t : TypeId} {b' : Nat} {x : Array Value} (h : Blk W b t x) (hne : b ≠ b') (v3 v4 v5 : Value) : Blk (((W.setCell ⟨b', 3, none⟩ v3).setCell ⟨b', 4, none⟩ v4).setCell ⟨b', 5, none⟩ v5) b t x :=
  ((h.set_ne hne 3 v3).set_ne hne 4 v4).set_ne hne 5 v5

end Pr
end Go.Proofs.Ytdnkinajbebkoaa

set_option maxRecDepth 100000
namespace Go.Proofs.Ytdnkinajbebkoaa
open Go.RowKit
set_option linter.unusedVariables false
set_option linter.unusedSimpArgs false
namespace Pr
open Tx Df Sq Hk Tr

theorem ppEndH_none {w w' : World} {p q x y : Ch} {b : Bool} (ho : outP (passP p q) = (x, y)) (hb : (passP p q).isSome = b) (h : passP p q = none) (hw : Below w.heap.size w w') :
    PPEndH w x y b (.returned (.tuple #[.agg #[.int .i64 0, strV [], strV [], .int .i64 0, .slice none 0 0, .slice none 0 0], .agg #[.int .i64 0, strV [], strV [], .int .i64 0, .slice none 0 0, .slice none 0 0], .bool false])) w' := by
  rw [h] at ho hb
  subst hb
  injection ho with h1 h2
  subst h1 h2
  exact ⟨none, 0, 0, none, 0, 0, none, 0, 0, none, 0, 0, rfl, zero_PV _ _, zero_PV _ _, ⟨Nat.zero_le _, Nat.zero_le _⟩, ⟨Nat.zero_le _, Nat.zero_le _⟩, ⟨hi_none _, hi_none _, hi_none _, hi_none _⟩, hw⟩
theorem ppEndH_some {w w' : World} {A B D E : Option Addr} {n c m d i j k l : Nat} {p q x y x' y' : Ch} {b : Bool} (ho : outP (passP p q) = (x, y)) (hb : (passP p q).isSome = b) (h : passP p q = some (x', y')) (hv : PV w' w'.heap.size A n c B m d x') (gv : PV w' w'.heap.size D i j E k l y') (hl : n ≤ 1000 ∧ m ≤ 1000) (gl : i ≤ 1000 ∧ k ≤ 1000)
    (hi : Hi w.heap.size A ∧ Hi w.heap.size B ∧ Hi w.heap.size D ∧ Hi w.heap.size E) (hw : Below w.heap.size w w') :
    PPEndH w x y b (.returned (.tuple #[prV x'.k x'.nm x'.to x'.h.pos A n c B m d, prV y'.k y'.nm y'.to y'.h.pos D i j E k l, .bool true])) w' := by
  rw [h] at ho hb
  subst hb
  injection ho with h1 h2
  subst h1 h2
  exact ⟨A, n, c, B, m, d, D, i, j, E, k, l, rfl, hv, gv, hl, gl, hi, hw⟩

/-- Two changes, boxed, the one or the other one first. -/
def Two (c wx : World) (T U : Nat) (x y : Array Value) : Prop := Blk wx T 54 x ∧ Blk wx U 54 y ∧ T ≠ U ∧ c.heap.size ≤ T ∧ c.heap.size ≤ U ∧ Below c.heap.size c wx
theorem two_aa (c : World) (x y : Array Value) : Two c ((c.alloc (.cells x 54)).alloc (.cells y 54)) c.heap.size (c.heap.size + 1) x y := by
  have h2 := Blk.new (c.alloc (.cells x 54)) 54 y
  simp only [World.size_alloc] at h2
  exact ⟨(Blk.new c _ x).alloc _, h2, by omega, Nat.le_refl _, Nat.le_succ _, two_box c _ _⟩
theorem Two.swap {c wx : World} {T U : Nat} {x y : Array Value} (h : Two c wx T U x y) : Two c wx U T y x := ⟨h.2.1, h.1, h.2.2.1.symm, h.2.2.2.2.1, h.2.2.2.1, h.2.2.2.2.2⟩
theorem Two.drew {c wx : World} {T U : Nat} {x y : Array Value} (h : Two c wx T U x y) : Two c wx.drew T U x y := ⟨h.1.drewN 1, h.2.1.drewN 1, h.2.2.1, h.2.2.2.1, h.2.2.2.2.1, below_drewN h.2.2.2.2.2 1⟩

theorem blk_ne6 {W : World} {b b' : Nat} {t : TypeId} {cs : Array Value} (h : Blk W b t cs) (hne : b ≠ b') (v0 v1 v2 v3 v4 v5 : Value) :
    Blk ((((((W.setCell ⟨b', 0, none⟩ v0).setCell ⟨b', 1, none⟩ v1).setCell ⟨b', 2, none⟩ v2).setCell ⟨b', 3, none⟩ v3).setCell ⟨b', 4, none⟩ v4).setCell ⟨b', 5, none⟩ v5) b t cs :=
  (((((h.set_ne hne 0 v0).set_ne hne 1 v1).set_ne hne 2 v2).set_ne hne 3 v3).set_ne hne 4 v4).set_ne hne 5 v5

/-- What lies there behind the switch. -/
def PMid (w wx : World) (g T U : Nat) (p q : Ch) : Prop :=
  ∃ x y A1 n1 c1 B1 m1 d1 A2 n2 c2 B2 m2 d2, passP p q = some (x, y) ∧
    Blk wx T 54 #[.int .i64 x.k, strV x.nm, strV x.to, .int .i64 x.h.pos, .slice A1 n1 c1, .slice B1 m1 d1] ∧
    Blk wx U 54 #[.int .i64 y.k, strV y.nm, strV y.to, .int .i64 y.h.pos, .slice A2 n2 c2, .slice B2 m2 d2] ∧
    Blk wx (g + 2) 54 #[.int .i64 0, strV [], strV [], .int .i64 0, .slice none 0 0, .slice none 0 0] ∧ Blk wx (g + 3) 54 #[.int .i64 0, strV [], strV [], .int .i64 0, .slice none 0 0, .slice none 0 0] ∧
    PV wx wx.heap.size A1 n1 c1 B1 m1 d1 x ∧ PV wx wx.heap.size A2 n2 c2 B2 m2 d2 y ∧ (n1 ≤ 1000 ∧ m1 ≤ 1000) ∧ (n2 ≤ 1000 ∧ m2 ≤ 1000) ∧ Below g w wx

/-- A change that may be, of another kind than a move, has no other name. -/
theorem may_to {p : Ch} (hm : mayP p = true) (hk : p.k = 3 ∨ p.k = 4) : p.to = [] := (may_h hm hk).2.1
theorem name_ne {p q : Ch} (hm : mayP p = true) (hq : mayP q = true) (hk : p.k = 3 ∨ p.k = 4) : (q.nm == p.to) = false := by
  rw [may_to hm hk]
  have h1 := (mayP_cases.1 hq).1
  cases hn : q.nm with
  | nil => rw [hn] at h1; revert h1; decide
  | cons _ _ => rfl

theorem k_absurd {k : Int} (h : (k == 3) = true) (h' : (k == 4) = true) : False := by
  have a : k = 3 := by simpa using h
  have b : k = 4 := by simpa using h'
  omega
theorem k_absurd2 {k : Int} (h : (k == 3) = true) (h' : (k == 2) = true) : False := by
  have a : k = 3 := by simpa using h
  have b : k = 2 := by simpa using h'
  omega
theorem k_absurd3 {k : Int} (h : (k == 4) = true) (h' : (k == 2) = true) : False := by
  have a : k = 4 := by simpa using h
  have b : k = 2 := by simpa using h'
  omega

set_option maxRecDepth 100000 in
set_option maxHeartbeats 16000000 in
theorem PassPH (A : Option Addr) (n c : Nat) (A' : Option Addr) (n' c' : Nat) (D : Option Addr) (m k : Nat) (D' : Option Addr) (m' k' : Nat) (p q x y : Ch) (w : World) (b : Bool) (hl : n ≤ 1000 ∧ n' ≤ 1000) (gl : m ≤ 1000 ∧ m' ≤ 1000)
    (hv : PV w w.heap.size A n c A' n' c' p) (gv : PV w w.heap.size D m k D' m' k' q) (ho : outP (passP p q) = (x, y)) (hb : (passP p q).isSome = b) :
    Calls Try.prog 74 #[prV p.k p.nm p.to p.h.pos A n c A' n' c', prV q.k q.nm q.to q.h.pos D m k D' m' k'] w (PPEndH w x y b) := by
  have HV0 := Lib.hid hv; have GV0 := Lib.hid gv; have HL := Lib.hid hl; have GL := Lib.hid gl; have HO := Lib.hid ho; have HBB := Lib.hid hb
  clear hl gl hv gv ho hb
  go_enter Try.func74, Try.ntmps74
  go_wp2_with fail
  have hw0 : Below w.heap.size w ((((w.alloc (.cells #[.int .i64 p.k, strV p.nm, strV p.to, .int .i64 p.h.pos, .slice A n c, .slice A' n' c'] 54)).alloc (.cells #[.int .i64 q.k, strV q.nm, strV q.to, .int .i64 q.h.pos, .slice D m k, .slice D' m' k'] 54)).alloc (.cells #[.int .i64 0, strV [], strV [], .int .i64 0, .slice none 0 0, .slice none 0 0] 54)).alloc (.cells #[.int .i64 0, strV [], strV [], .int .i64 0, .slice none 0 0, .slice none 0 0] 54)) := ((((Below.refl _ _).alloc (Nat.le_refl _) _).alloc (by simp) _).alloc (by simp; omega) _).alloc (by simp; omega) _
  have b0 := (((Blk.new w 54 #[.int .i64 p.k, strV p.nm, strV p.to, .int .i64 p.h.pos, .slice A n c, .slice A' n' c']).alloc (.cells #[.int .i64 q.k, strV q.nm, strV q.to, .int .i64 q.h.pos, .slice D m k, .slice D' m' k'] 54)).alloc (.cells #[.int .i64 0, strV [], strV [], .int .i64 0, .slice none 0 0, .slice none 0 0] 54)).alloc (.cells #[.int .i64 0, strV [], strV [], .int .i64 0, .slice none 0 0, .slice none 0 0] 54)
  have b1 := ((Blk.new (w.alloc (.cells #[.int .i64 p.k, strV p.nm, strV p.to, .int .i64 p.h.pos, .slice A n c, .slice A' n' c'] 54)) 54 #[.int .i64 q.k, strV q.nm, strV q.to, .int .i64 q.h.pos, .slice D m k, .slice D' m' k']).alloc (.cells #[.int .i64 0, strV [], strV [], .int .i64 0, .slice none 0 0, .slice none 0 0] 54)).alloc (.cells #[.int .i64 0, strV [], strV [], .int .i64 0, .slice none 0 0, .slice none 0 0] 54)
  have b2 := (Blk.new ((w.alloc (.cells #[.int .i64 p.k, strV p.nm, strV p.to, .int .i64 p.h.pos, .slice A n c, .slice A' n' c'] 54)).alloc (.cells #[.int .i64 q.k, strV q.nm, strV q.to, .int .i64 q.h.pos, .slice D m k, .slice D' m' k'] 54)) 54 #[.int .i64 0, strV [], strV [], .int .i64 0, .slice none 0 0, .slice none 0 0]).alloc (.cells #[.int .i64 0, strV [], strV [], .int .i64 0, .slice none 0 0, .slice none 0 0] 54)
  have b3 := Blk.new (((w.alloc (.cells #[.int .i64 p.k, strV p.nm, strV p.to, .int .i64 p.h.pos, .slice A n c, .slice A' n' c'] 54)).alloc (.cells #[.int .i64 q.k, strV q.nm, strV q.to, .int .i64 q.h.pos, .slice D m k, .slice D' m' k'] 54)).alloc (.cells #[.int .i64 0, strV [], strV [], .int .i64 0, .slice none 0 0, .slice none 0 0] 54)) 54 #[.int .i64 0, strV [], strV [], .int .i64 0, .slice none 0 0, .slice none 0 0]
  simp only [World.size_alloc] at b1 b2 b3
  generalize ((((w.alloc (.cells #[.int .i64 p.k, strV p.nm, strV p.to, .int .i64 p.h.pos, .slice A n c, .slice A' n' c'] 54)).alloc (.cells #[.int .i64 q.k, strV q.nm, strV q.to, .int .i64 q.h.pos, .slice D m k, .slice D' m' k'] 54)).alloc (.cells #[.int .i64 0, strV [], strV [], .int .i64 0, .slice none 0 0, .slice none 0 0] 54)).alloc (.cells #[.int .i64 0, strV [], strV [], .int .i64 0, .slice none 0 0, .slice none 0 0] 54)) = w0 at *
  obtain ⟨g, hgs⟩ : ∃ g, w.heap.size = g := ⟨_, rfl⟩
  rw [hgs] at b0 b1 b2 b3 ⊢
  rw [show g + 1 + 1 = g + 2 from rfl] at b2 b3 ⊢
  rw [show g + 2 + 1 = g + 3 from rfl] at b3 ⊢
  have HGS := Lib.hid hgs
  have HVw0 := Lib.hid (HV0.out.mv hw0); have GVw0 := Lib.hid (GV0.out.mv hw0)
  rw [hgs] at hw0
  have HWw0 := Lib.hid hw0
  have HB0w0 := Lib.hid b0; have HB1w0 := Lib.hid b1; have HB2w0 := Lib.hid b2; have HB3w0 := Lib.hid b3
  clear hgs b0 b1 b2 b3 hw0
  obtain ⟨bp, hbp⟩ : ∃ b, mayP p = b := ⟨_, rfl⟩
  obtain ⟨bq, hbq⟩ : ∃ b, mayP q = b := ⟨_, rfl⟩
  obtain ⟨ba, hba⟩ : ∃ b, apartP p q = b := ⟨_, rfl⟩
  have HBP := Lib.hid hbp; have HBQ := Lib.hid hbq; have HBA := Lib.hid hba
  clear hbp hbq hba
  have HGw0 := Lib.hid (show g ≤ w0.heap.size by have := HB3w0.out.lt; omega)
  have x0 : w0.cell? ⟨g, 0, none⟩ = some (.int .i64 p.k) := HB0w0.out.cell 0 rfl; have x1 : w0.cell? ⟨g, 1, none⟩ = some (strV p.nm) := HB0w0.out.cell 1 rfl; have x2 : w0.cell? ⟨g, 2, none⟩ = some (strV p.to) := HB0w0.out.cell 2 rfl; have x3 : w0.cell? ⟨g, 3, none⟩ = some (.int .i64 p.h.pos) := HB0w0.out.cell 3 rfl; have x4 : w0.cell? ⟨g, 4, none⟩ = some (.slice A n c) := HB0w0.out.cell 4 rfl; have x5 : w0.cell? ⟨g, 5, none⟩ = some (.slice A' n' c') := HB0w0.out.cell 5 rfl
  go_step3
  go_wp2_with fail
  clear x0 x1 x2 x3 x4 x5
  refine (MayP A n c A' n' c' p w0 bp HVw0.out HBP.out).mono ?_
  rintro e w1 ⟨rfl, hb⟩
  have HVw1 := Lib.hid (HVw0.out.mv hb); have GVw1 := Lib.hid (GVw0.out.mv hb); clear HVw0 GVw0
  have HWw1 := Lib.hid (HWw0.out.trans (hb.mono HGw0.out)); have HGw1 := Lib.hid (Nat.le_trans HGw0.out hb.size)
  have HB0w1 := Lib.hid (HB0w0.out.below hb HB0w0.out.lt); have HB1w1 := Lib.hid (HB1w0.out.below hb HB1w0.out.lt); have HB2w1 := Lib.hid (HB2w0.out.below hb HB2w0.out.lt); have HB3w1 := Lib.hid (HB3w0.out.below hb HB3w0.out.lt)
  clear hb HWw0 HGw0 HB0w0 HB1w0 HB2w0 HB3w0
  cases bp with
  | false =>
    have u0 : w1.cell? ⟨g + 2, 0, none⟩ = some (.int .i64 0) := HB2w1.out.cell 0 rfl; have u1 : w1.cell? ⟨g + 2, 1, none⟩ = some (strV []) := HB2w1.out.cell 1 rfl; have u2 : w1.cell? ⟨g + 2, 2, none⟩ = some (strV []) := HB2w1.out.cell 2 rfl; have u3 : w1.cell? ⟨g + 2, 3, none⟩ = some (.int .i64 0) := HB2w1.out.cell 3 rfl; have u4 : w1.cell? ⟨g + 2, 4, none⟩ = some (.slice none 0 0) := HB2w1.out.cell 4 rfl; have u5 : w1.cell? ⟨g + 2, 5, none⟩ = some (.slice none 0 0) := HB2w1.out.cell 5 rfl
    have v0 : w1.cell? ⟨g + 3, 0, none⟩ = some (.int .i64 0) := HB3w1.out.cell 0 rfl; have v1 : w1.cell? ⟨g + 3, 1, none⟩ = some (strV []) := HB3w1.out.cell 1 rfl; have v2 : w1.cell? ⟨g + 3, 2, none⟩ = some (strV []) := HB3w1.out.cell 2 rfl; have v3 : w1.cell? ⟨g + 3, 3, none⟩ = some (.int .i64 0) := HB3w1.out.cell 3 rfl; have v4 : w1.cell? ⟨g + 3, 4, none⟩ = some (.slice none 0 0) := HB3w1.out.cell 4 rfl; have v5 : w1.cell? ⟨g + 3, 5, none⟩ = some (.slice none 0 0) := HB3w1.out.cell 5 rfl
    have f0 : w1.frozen? ⟨g + 2, 0, none⟩ = false := HB2w1.out.frozen 0; have f1 : w1.frozen? ⟨g + 2, 1, none⟩ = false := HB2w1.out.frozen 1; have f2 : w1.frozen? ⟨g + 2, 2, none⟩ = false := HB2w1.out.frozen 2; have f3 : w1.frozen? ⟨g + 2, 3, none⟩ = false := HB2w1.out.frozen 3; have f4 : w1.frozen? ⟨g + 2, 4, none⟩ = false := HB2w1.out.frozen 4; have f5 : w1.frozen? ⟨g + 2, 5, none⟩ = false := HB2w1.out.frozen 5
    have h0 : w1.frozen? ⟨g + 3, 0, none⟩ = false := HB3w1.out.frozen 0; have h1 : w1.frozen? ⟨g + 3, 1, none⟩ = false := HB3w1.out.frozen 1; have h2 : w1.frozen? ⟨g + 3, 2, none⟩ = false := HB3w1.out.frozen 2; have h3 : w1.frozen? ⟨g + 3, 3, none⟩ = false := HB3w1.out.frozen 3; have h4 : w1.frozen? ⟨g + 3, 4, none⟩ = false := HB3w1.out.frozen 4; have h5 : w1.frozen? ⟨g + 3, 5, none⟩ = false := HB3w1.out.frozen 5
    go_wp2_with fail
    obtain ⟨z2, z3⟩ := two_set6 HB2w1.out HB3w1.out (by omega) (.int .i64 0) (strV []) (strV []) (.int .i64 0) (.slice none 0 0) (.slice none 0 0) (.int .i64 0) (strV []) (strV []) (.int .i64 0) (.slice none 0 0) (.slice none 0 0)
    have hb6 := below_set12 (b := g + 2) (b' := g + 3) HWw1.out (by omega) (by omega) (.int .i64 0) (strV []) (strV []) (.int .i64 0) (.slice none 0 0) (.slice none 0 0) (.int .i64 0) (strV []) (strV []) (.int .i64 0) (.slice none 0 0) (.slice none 0 0)
    generalize (World.setCell (World.setCell (World.setCell (World.setCell (World.setCell (World.setCell (World.setCell (World.setCell (World.setCell (World.setCell (World.setCell (World.setCell w1 ⟨g + 2, 0, none⟩ (.int .i64 0)) ⟨g + 2, 1, none⟩ (strV [])) ⟨g + 2, 2, none⟩ (strV [])) ⟨g + 2, 3, none⟩ (.int .i64 0)) ⟨g + 2, 4, none⟩ (.slice none 0 0)) ⟨g + 2, 5, none⟩ (.slice none 0 0)) ⟨g + 3, 0, none⟩ (.int .i64 0)) ⟨g + 3, 1, none⟩ (strV [])) ⟨g + 3, 2, none⟩ (strV [])) ⟨g + 3, 3, none⟩ (.int .i64 0)) ⟨g + 3, 4, none⟩ (.slice none 0 0)) ⟨g + 3, 5, none⟩ (.slice none 0 0)) = W3 at *
    clear u0 u1 u2 u3 u4 u5 v0 v1 v2 v3 v4 v5 f0 f1 f2 f3 f4 f5 h0 h1 h2 h3 h4 h5
    have u0 : W3.cell? ⟨g + 2, 0, none⟩ = some (.int .i64 0) := z2.cell 0 rfl; have u1 : W3.cell? ⟨g + 2, 1, none⟩ = some (strV []) := z2.cell 1 rfl; have u2 : W3.cell? ⟨g + 2, 2, none⟩ = some (strV []) := z2.cell 2 rfl; have u3 : W3.cell? ⟨g + 2, 3, none⟩ = some (.int .i64 0) := z2.cell 3 rfl; have u4 : W3.cell? ⟨g + 2, 4, none⟩ = some (.slice none 0 0) := z2.cell 4 rfl; have u5 : W3.cell? ⟨g + 2, 5, none⟩ = some (.slice none 0 0) := z2.cell 5 rfl
    have v0 : W3.cell? ⟨g + 3, 0, none⟩ = some (.int .i64 0) := z3.cell 0 rfl; have v1 : W3.cell? ⟨g + 3, 1, none⟩ = some (strV []) := z3.cell 1 rfl; have v2 : W3.cell? ⟨g + 3, 2, none⟩ = some (strV []) := z3.cell 2 rfl; have v3 : W3.cell? ⟨g + 3, 3, none⟩ = some (.int .i64 0) := z3.cell 3 rfl; have v4 : W3.cell? ⟨g + 3, 4, none⟩ = some (.slice none 0 0) := z3.cell 4 rfl; have v5 : W3.cell? ⟨g + 3, 5, none⟩ = some (.slice none 0 0) := z3.cell 5 rfl
    try rw [Exit.noGoto_ret]
    refine bodyPost_ret (v := .tuple #[.agg #[.int .i64 0, strV [], strV [], .int .i64 0, .slice none 0 0, .slice none 0 0], .agg #[.int .i64 0, strV [], strV [], .int .i64 0, .slice none 0 0, .slice none 0 0], .bool false]) (by simp [results, Try.results74, go_sem, u0, v0, u1, v1, u2, v2, u3, v3, u4, v4, u5, v5]) rfl ?_
    have hW : Below w.heap.size w W3 := by rw [HGS.out]; exact hb6
    exact ppEndH_none HO.out HBB.out (passP_no1 HBP.out) hW
  | true =>
  have y0 : w1.cell? ⟨g + 1, 0, none⟩ = some (.int .i64 q.k) := HB1w1.out.cell 0 rfl; have y1 : w1.cell? ⟨g + 1, 1, none⟩ = some (strV q.nm) := HB1w1.out.cell 1 rfl; have y2 : w1.cell? ⟨g + 1, 2, none⟩ = some (strV q.to) := HB1w1.out.cell 2 rfl; have y3 : w1.cell? ⟨g + 1, 3, none⟩ = some (.int .i64 q.h.pos) := HB1w1.out.cell 3 rfl; have y4 : w1.cell? ⟨g + 1, 4, none⟩ = some (.slice D m k) := HB1w1.out.cell 4 rfl; have y5 : w1.cell? ⟨g + 1, 5, none⟩ = some (.slice D' m' k') := HB1w1.out.cell 5 rfl
  go_wp2_with fail
  clear y0 y1 y2 y3 y4 y5
  refine (MayP D m k D' m' k' q w1 bq GVw1.out HBQ.out).mono ?_
  rintro e w2 ⟨rfl, hb⟩
  have HVw2 := Lib.hid (HVw1.out.mv hb); have GVw2 := Lib.hid (GVw1.out.mv hb); clear HVw1 GVw1
  have HWw2 := Lib.hid (HWw1.out.trans (hb.mono HGw1.out)); have HGw2 := Lib.hid (Nat.le_trans HGw1.out hb.size)
  have HB0w2 := Lib.hid (HB0w1.out.below hb HB0w1.out.lt); have HB1w2 := Lib.hid (HB1w1.out.below hb HB1w1.out.lt); have HB2w2 := Lib.hid (HB2w1.out.below hb HB2w1.out.lt); have HB3w2 := Lib.hid (HB3w1.out.below hb HB3w1.out.lt)
  clear hb HWw1 HGw1 HB0w1 HB1w1 HB2w1 HB3w1
  cases bq with
  | false =>
    have u0 : w2.cell? ⟨g + 2, 0, none⟩ = some (.int .i64 0) := HB2w2.out.cell 0 rfl; have u1 : w2.cell? ⟨g + 2, 1, none⟩ = some (strV []) := HB2w2.out.cell 1 rfl; have u2 : w2.cell? ⟨g + 2, 2, none⟩ = some (strV []) := HB2w2.out.cell 2 rfl; have u3 : w2.cell? ⟨g + 2, 3, none⟩ = some (.int .i64 0) := HB2w2.out.cell 3 rfl; have u4 : w2.cell? ⟨g + 2, 4, none⟩ = some (.slice none 0 0) := HB2w2.out.cell 4 rfl; have u5 : w2.cell? ⟨g + 2, 5, none⟩ = some (.slice none 0 0) := HB2w2.out.cell 5 rfl
    have v0 : w2.cell? ⟨g + 3, 0, none⟩ = some (.int .i64 0) := HB3w2.out.cell 0 rfl; have v1 : w2.cell? ⟨g + 3, 1, none⟩ = some (strV []) := HB3w2.out.cell 1 rfl; have v2 : w2.cell? ⟨g + 3, 2, none⟩ = some (strV []) := HB3w2.out.cell 2 rfl; have v3 : w2.cell? ⟨g + 3, 3, none⟩ = some (.int .i64 0) := HB3w2.out.cell 3 rfl; have v4 : w2.cell? ⟨g + 3, 4, none⟩ = some (.slice none 0 0) := HB3w2.out.cell 4 rfl; have v5 : w2.cell? ⟨g + 3, 5, none⟩ = some (.slice none 0 0) := HB3w2.out.cell 5 rfl
    have f0 : w2.frozen? ⟨g + 2, 0, none⟩ = false := HB2w2.out.frozen 0; have f1 : w2.frozen? ⟨g + 2, 1, none⟩ = false := HB2w2.out.frozen 1; have f2 : w2.frozen? ⟨g + 2, 2, none⟩ = false := HB2w2.out.frozen 2; have f3 : w2.frozen? ⟨g + 2, 3, none⟩ = false := HB2w2.out.frozen 3; have f4 : w2.frozen? ⟨g + 2, 4, none⟩ = false := HB2w2.out.frozen 4; have f5 : w2.frozen? ⟨g + 2, 5, none⟩ = false := HB2w2.out.frozen 5
    have h0 : w2.frozen? ⟨g + 3, 0, none⟩ = false := HB3w2.out.frozen 0; have h1 : w2.frozen? ⟨g + 3, 1, none⟩ = false := HB3w2.out.frozen 1; have h2 : w2.frozen? ⟨g + 3, 2, none⟩ = false := HB3w2.out.frozen 2; have h3 : w2.frozen? ⟨g + 3, 3, none⟩ = false := HB3w2.out.frozen 3; have h4 : w2.frozen? ⟨g + 3, 4, none⟩ = false := HB3w2.out.frozen 4; have h5 : w2.frozen? ⟨g + 3, 5, none⟩ = false := HB3w2.out.frozen 5
    go_wp2_with fail
    obtain ⟨z2, z3⟩ := two_set6 HB2w2.out HB3w2.out (by omega) (.int .i64 0) (strV []) (strV []) (.int .i64 0) (.slice none 0 0) (.slice none 0 0) (.int .i64 0) (strV []) (strV []) (.int .i64 0) (.slice none 0 0) (.slice none 0 0)
    have hb6 := below_set12 (b := g + 2) (b' := g + 3) HWw2.out (by omega) (by omega) (.int .i64 0) (strV []) (strV []) (.int .i64 0) (.slice none 0 0) (.slice none 0 0) (.int .i64 0) (strV []) (strV []) (.int .i64 0) (.slice none 0 0) (.slice none 0 0)
    generalize (World.setCell (World.setCell (World.setCell (World.setCell (World.setCell (World.setCell (World.setCell (World.setCell (World.setCell (World.setCell (World.setCell (World.setCell w2 ⟨g + 2, 0, none⟩ (.int .i64 0)) ⟨g + 2, 1, none⟩ (strV [])) ⟨g + 2, 2, none⟩ (strV [])) ⟨g + 2, 3, none⟩ (.int .i64 0)) ⟨g + 2, 4, none⟩ (.slice none 0 0)) ⟨g + 2, 5, none⟩ (.slice none 0 0)) ⟨g + 3, 0, none⟩ (.int .i64 0)) ⟨g + 3, 1, none⟩ (strV [])) ⟨g + 3, 2, none⟩ (strV [])) ⟨g + 3, 3, none⟩ (.int .i64 0)) ⟨g + 3, 4, none⟩ (.slice none 0 0)) ⟨g + 3, 5, none⟩ (.slice none 0 0)) = W3 at *
    clear u0 u1 u2 u3 u4 u5 v0 v1 v2 v3 v4 v5 f0 f1 f2 f3 f4 f5 h0 h1 h2 h3 h4 h5
    have u0 : W3.cell? ⟨g + 2, 0, none⟩ = some (.int .i64 0) := z2.cell 0 rfl; have u1 : W3.cell? ⟨g + 2, 1, none⟩ = some (strV []) := z2.cell 1 rfl; have u2 : W3.cell? ⟨g + 2, 2, none⟩ = some (strV []) := z2.cell 2 rfl; have u3 : W3.cell? ⟨g + 2, 3, none⟩ = some (.int .i64 0) := z2.cell 3 rfl; have u4 : W3.cell? ⟨g + 2, 4, none⟩ = some (.slice none 0 0) := z2.cell 4 rfl; have u5 : W3.cell? ⟨g + 2, 5, none⟩ = some (.slice none 0 0) := z2.cell 5 rfl
    have v0 : W3.cell? ⟨g + 3, 0, none⟩ = some (.int .i64 0) := z3.cell 0 rfl; have v1 : W3.cell? ⟨g + 3, 1, none⟩ = some (strV []) := z3.cell 1 rfl; have v2 : W3.cell? ⟨g + 3, 2, none⟩ = some (strV []) := z3.cell 2 rfl; have v3 : W3.cell? ⟨g + 3, 3, none⟩ = some (.int .i64 0) := z3.cell 3 rfl; have v4 : W3.cell? ⟨g + 3, 4, none⟩ = some (.slice none 0 0) := z3.cell 4 rfl; have v5 : W3.cell? ⟨g + 3, 5, none⟩ = some (.slice none 0 0) := z3.cell 5 rfl
    try rw [Exit.noGoto_ret]
    refine bodyPost_ret (v := .tuple #[.agg #[.int .i64 0, strV [], strV [], .int .i64 0, .slice none 0 0, .slice none 0 0], .agg #[.int .i64 0, strV [], strV [], .int .i64 0, .slice none 0 0, .slice none 0 0], .bool false]) (by simp [results, Try.results74, go_sem, u0, v0, u1, v1, u2, v2, u3, v3, u4, v4, u5, v5]) rfl ?_
    have hW : Below w.heap.size w W3 := by rw [HGS.out]; exact hb6
    exact ppEndH_none HO.out HBB.out (passP_no2 HBQ.out) hW
  | true =>
  go_upto_region 3 with fail
  go_cut [7, 8] from 9 (fun s7 s8 wx => ∃ (T U : Nat), s7 = .pointer (some ⟨T, 0, none⟩) ∧ s8 = .pointer (some ⟨U, 0, none⟩) ∧ Two w2 wx T U #[.int .i64 q.k, strV q.nm, strV q.to, .int .i64 q.h.pos, .slice D m k, .slice D' m' k'] #[.int .i64 p.k, strV p.nm, strV p.to, .int .i64 p.h.pos, .slice A n c, .slice A' n' c'])
  case first =>
    have x0 : w2.cell? ⟨g, 0, none⟩ = some (.int .i64 p.k) := HB0w2.out.cell 0 rfl; have x1 : w2.cell? ⟨g, 1, none⟩ = some (strV p.nm) := HB0w2.out.cell 1 rfl; have x2 : w2.cell? ⟨g, 2, none⟩ = some (strV p.to) := HB0w2.out.cell 2 rfl; have x3 : w2.cell? ⟨g, 3, none⟩ = some (.int .i64 p.h.pos) := HB0w2.out.cell 3 rfl; have x4 : w2.cell? ⟨g, 4, none⟩ = some (.slice A n c) := HB0w2.out.cell 4 rfl; have x5 : w2.cell? ⟨g, 5, none⟩ = some (.slice A' n' c') := HB0w2.out.cell 5 rfl
    have y0 : w2.cell? ⟨g + 1, 0, none⟩ = some (.int .i64 q.k) := HB1w2.out.cell 0 rfl; have y1 : w2.cell? ⟨g + 1, 1, none⟩ = some (strV q.nm) := HB1w2.out.cell 1 rfl; have y2 : w2.cell? ⟨g + 1, 2, none⟩ = some (strV q.to) := HB1w2.out.cell 2 rfl; have y3 : w2.cell? ⟨g + 1, 3, none⟩ = some (.int .i64 q.h.pos) := HB1w2.out.cell 3 rfl; have y4 : w2.cell? ⟨g + 1, 4, none⟩ = some (.slice D m k) := HB1w2.out.cell 4 rfl; have y5 : w2.cell? ⟨g + 1, 5, none⟩ = some (.slice D' m' k') := HB1w2.out.cell 5 rfl
    have hg0 : g < w2.heap.size := HB0w2.out.lt
    have hg1 : g + 1 < w2.heap.size := HB1w2.out.lt
    go_region
    all_goals (try go_wp2_with fail)
    all_goals go_meet
    all_goals first
      | (with_reducible exact ⟨_, _, rfl, rfl, (two_aa w2 _ _).drew⟩)
      | (with_reducible exact ⟨_, _, rfl, rfl, (two_aa w2 _ _).swap.drew⟩)
      | (exact ⟨_, _, rfl, rfl, (two_aa w2 _ _).drew⟩)
      | (exact ⟨_, _, rfl, rfl, (two_aa w2 _ _).swap.drew⟩)
  case rest =>
  obtain ⟨T, U, rfl, rfl, hbt, hbu, hne, hT, hU, hb⟩ := hcut
  have HBTwc := Lib.hid hbt; have HBUwc := Lib.hid hbu; have HNE := Lib.hid hne
  have HgT : Hid (g + 3 < T ∧ g + 3 < U) := Lib.hid (by have := HB3w2.out.lt; omega)
  have HVwc := Lib.hid (HVw2.out.mv hb); have GVwc := Lib.hid (GVw2.out.mv hb); clear HVw2 GVw2
  clear hbt hbu hne hT hU
  have HWwc := Lib.hid (HWw2.out.trans (hb.mono HGw2.out)); have HGwc := Lib.hid (Nat.le_trans HGw2.out hb.size)
  have HB0wc := Lib.hid (HB0w2.out.below hb HB0w2.out.lt); have HB1wc := Lib.hid (HB1w2.out.below hb HB1w2.out.lt); have HB2wc := Lib.hid (HB2w2.out.below hb HB2w2.out.lt); have HB3wc := Lib.hid (HB3w2.out.below hb HB3w2.out.lt)
  clear hb HWw2 HGw2 HB0w2 HB1w2 HB2w2 HB3w2
  go_wp2_with fail
  go_step3
  go_step
  go_step
  go_step
  go_cut [] from 9 (fun wx => PMid w wx g T U p q)
  case first =>
    have x0 : wc.cell? ⟨g, 0, none⟩ = some (.int .i64 p.k) := HB0wc.out.cell 0 rfl; have x1 : wc.cell? ⟨g, 1, none⟩ = some (strV p.nm) := HB0wc.out.cell 1 rfl; have x2 : wc.cell? ⟨g, 2, none⟩ = some (strV p.to) := HB0wc.out.cell 2 rfl; have x3 : wc.cell? ⟨g, 3, none⟩ = some (.int .i64 p.h.pos) := HB0wc.out.cell 3 rfl; have x4 : wc.cell? ⟨g, 4, none⟩ = some (.slice A n c) := HB0wc.out.cell 4 rfl; have x5 : wc.cell? ⟨g, 5, none⟩ = some (.slice A' n' c') := HB0wc.out.cell 5 rfl
    have y0 : wc.cell? ⟨g + 1, 0, none⟩ = some (.int .i64 q.k) := HB1wc.out.cell 0 rfl; have y1 : wc.cell? ⟨g + 1, 1, none⟩ = some (strV q.nm) := HB1wc.out.cell 1 rfl; have y2 : wc.cell? ⟨g + 1, 2, none⟩ = some (strV q.to) := HB1wc.out.cell 2 rfl; have y3 : wc.cell? ⟨g + 1, 3, none⟩ = some (.int .i64 q.h.pos) := HB1wc.out.cell 3 rfl; have y4 : wc.cell? ⟨g + 1, 4, none⟩ = some (.slice D m k) := HB1wc.out.cell 4 rfl; have y5 : wc.cell? ⟨g + 1, 5, none⟩ = some (.slice D' m' k') := HB1wc.out.cell 5 rfl
    go_wp2_with fail
    clear x0 x1 x2 x3 x4 x5 y0 y1 y2 y3 y4 y5
    refine (Meet A n c A' n' c' D m k D' m' k' p q wc ba HBA.out).mono ?_
    rintro e w4 ⟨rfl, hb⟩
    have HVw4 := Lib.hid (HVwc.out.mv hb); have GVw4 := Lib.hid (GVwc.out.mv hb); clear HVwc GVwc
    have HWw4 := Lib.hid (HWwc.out.trans (hb.mono HGwc.out)); have HGw4 := Lib.hid (Nat.le_trans HGwc.out hb.size)
    have HB0w4 := Lib.hid (HB0wc.out.below hb HB0wc.out.lt); have HB1w4 := Lib.hid (HB1wc.out.below hb HB1wc.out.lt); have HB2w4 := Lib.hid (HB2wc.out.below hb HB2wc.out.lt); have HB3w4 := Lib.hid (HB3wc.out.below hb HB3wc.out.lt); have HBTw4 := Lib.hid (HBTwc.out.below hb HBTwc.out.lt); have HBUw4 := Lib.hid (HBUwc.out.below hb HBUwc.out.lt)
    clear hb HWwc HGwc HB0wc HB1wc HB2wc HB3wc HBTwc HBUwc
    have x0 : w4.cell? ⟨g, 0, none⟩ = some (.int .i64 p.k) := HB0w4.out.cell 0 rfl; have x1 : w4.cell? ⟨g, 1, none⟩ = some (strV p.nm) := HB0w4.out.cell 1 rfl; have x2 : w4.cell? ⟨g, 2, none⟩ = some (strV p.to) := HB0w4.out.cell 2 rfl; have x3 : w4.cell? ⟨g, 3, none⟩ = some (.int .i64 p.h.pos) := HB0w4.out.cell 3 rfl; have x4 : w4.cell? ⟨g, 4, none⟩ = some (.slice A n c) := HB0w4.out.cell 4 rfl; have x5 : w4.cell? ⟨g, 5, none⟩ = some (.slice A' n' c') := HB0w4.out.cell 5 rfl
    have y0 : w4.cell? ⟨g + 1, 0, none⟩ = some (.int .i64 q.k) := HB1w4.out.cell 0 rfl; have y1 : w4.cell? ⟨g + 1, 1, none⟩ = some (strV q.nm) := HB1w4.out.cell 1 rfl; have y2 : w4.cell? ⟨g + 1, 2, none⟩ = some (strV q.to) := HB1w4.out.cell 2 rfl; have y3 : w4.cell? ⟨g + 1, 3, none⟩ = some (.int .i64 q.h.pos) := HB1w4.out.cell 3 rfl; have y4 : w4.cell? ⟨g + 1, 4, none⟩ = some (.slice D m k) := HB1w4.out.cell 4 rfl; have y5 : w4.cell? ⟨g + 1, 5, none⟩ = some (.slice D' m' k') := HB1w4.out.cell 5 rfl
    cases ba with
    | true =>
      go_wp2_with fail
      go_meet
      exact ⟨_, _, D, m, k, D', m', k', A, n, c, A', n', c', (passP_ap HBP.out HBQ.out HBA.out), HBTw4.out, HBUw4.out, HB2w4.out, HB3w4.out, GVw4.out, HVw4.out, GL.out, HL.out, HWw4.out⟩
    | false =>
    by_cases h3 : p.k = 3 ∧ q.k = 3
    · have e1 : (p.k == 3) = true := by simpa using h3.1
      have e2 : (q.k == 3) = true := by simpa using h3.2
      have H3 := Lib.hid h3; clear h3
      go_wp2_with fail
      clear x0 x1 x2 x3 x4 x5 y0 y1 y2 y3 y4 y5
      refine (Sw.PassHi A n c A' n' c' D m k D' m' k' w4.heap.size p.h q.h w4 (Nat.le_refl _) HL.out.1 HL.out.2 GL.out.1 GL.out.2 HVw4.out.h GVw4.out.h).mono ?_
      rintro e w5 hend
      have hb : Below w4.heap.size w4 w5 := by obtain ⟨_, _, _, _, _, _, _, _, _, _, _, _, _, _, _, _, hb⟩ := hend; exact hb
      cases hz : Sw.passH p.h q.h with
      | none =>
        have HN : Hid (passP p q = none) := Lib.hid (by rw [passP_b HBP.out HBQ.out HBA.out H3.out.1 H3.out.2, hz]; rfl)
        have hz0 : Sw.outH (Sw.passH p.h q.h) = (Sw.zeroH, Sw.zeroH) := by rw [hz]; rfl
        obtain ⟨E1, i1, j1, E2, i2, j2, G1, k1, l1, G2, k2, l2, he, v1, v2, hhi, _⟩ := hend
        clear v1 v2 hhi
        rw [hz0, hz] at he
        have he' : e = .returned (.tuple #[Hk.hkV 0 E1 i1 j1 E2 i2 j2, Hk.hkV 0 G1 k1 l1 G2 k2 l2, .bool false]) := he
        clear he
        subst he'
        clear hz hz0
        have HVw5 := Lib.hid (HVw4.out.mv hb); have GVw5 := Lib.hid (GVw4.out.mv hb); clear HVw4 GVw4
        have HWw5 := Lib.hid (HWw4.out.trans (hb.mono HGw4.out)); have HGw5 := Lib.hid (Nat.le_trans HGw4.out hb.size)
        have HB0w5 := Lib.hid (HB0w4.out.below hb HB0w4.out.lt); have HB1w5 := Lib.hid (HB1w4.out.below hb HB1w4.out.lt); have HB2w5 := Lib.hid (HB2w4.out.below hb HB2w4.out.lt); have HB3w5 := Lib.hid (HB3w4.out.below hb HB3w4.out.lt); have HBTw5 := Lib.hid (HBTw4.out.below hb HBTw4.out.lt); have HBUw5 := Lib.hid (HBUw4.out.below hb HBUw4.out.lt)
        clear hb HWw4 HGw4 HB0w4 HB1w4 HB2w4 HB3w4 HBTw4 HBUw4
        go_upto_region 10 with fail
        have hb : Below w5.heap.size w5 ((w5.alloc (.cells #[.int .i64 0, .slice E1 i1 j1, .slice E2 i2 j2] 52)).alloc (.cells #[.int .i64 0, .slice G1 k1 l1, .slice G2 k2 l2] 52)) := two_box _ _ _
        have HBX := Lib.hid ((Blk.new w5 52 #[.int .i64 0, .slice E1 i1 j1, .slice E2 i2 j2]).alloc (.cells #[.int .i64 0, .slice G1 k1 l1, .slice G2 k2 l2] 52))
        have hby := Blk.new (w5.alloc (.cells #[.int .i64 0, .slice E1 i1 j1, .slice E2 i2 j2] 52)) 52 #[.int .i64 0, .slice G1 k1 l1, .slice G2 k2 l2]
        simp only [World.size_alloc] at hby
        have HBY := Lib.hid hby
        clear hby
        have HVw6 := Lib.hid (HVw5.out.mv hb); have GVw6 := Lib.hid (GVw5.out.mv hb); clear HVw5 GVw5
        have HG5 := Lib.hid (show T < w5.heap.size ∧ U < w5.heap.size from ⟨HBTw5.out.lt, HBUw5.out.lt⟩)
        have HWw6 := Lib.hid (HWw5.out.trans (hb.mono HGw5.out)); have HGw6 := Lib.hid (Nat.le_trans HGw5.out hb.size)
        have HB0w6 := Lib.hid (HB0w5.out.below hb HB0w5.out.lt); have HB1w6 := Lib.hid (HB1w5.out.below hb HB1w5.out.lt); have HB2w6 := Lib.hid (HB2w5.out.below hb HB2w5.out.lt); have HB3w6 := Lib.hid (HB3w5.out.below hb HB3w5.out.lt); have HBTw6 := Lib.hid (HBTw5.out.below hb HBTw5.out.lt); have HBUw6 := Lib.hid (HBUw5.out.below hb HBUw5.out.lt)
        clear hb HWw5 HGw5 HB0w5 HB1w5 HB2w5 HB3w5 HBTw5 HBUw5
        generalize ((w5.alloc (.cells #[.int .i64 0, .slice E1 i1 j1, .slice E2 i2 j2] 52)).alloc (.cells #[.int .i64 0, .slice G1 k1 l1, .slice G2 k2 l2] 52)) = w6 at *
        generalize w5.heap.size = g5 at *
        have x0 : w6.cell? ⟨g, 0, none⟩ = some (.int .i64 p.k) := HB0w6.out.cell 0 rfl; have x1 : w6.cell? ⟨g, 1, none⟩ = some (strV p.nm) := HB0w6.out.cell 1 rfl; have x2 : w6.cell? ⟨g, 2, none⟩ = some (strV p.to) := HB0w6.out.cell 2 rfl; have x3 : w6.cell? ⟨g, 3, none⟩ = some (.int .i64 p.h.pos) := HB0w6.out.cell 3 rfl; have x4 : w6.cell? ⟨g, 4, none⟩ = some (.slice A n c) := HB0w6.out.cell 4 rfl; have x5 : w6.cell? ⟨g, 5, none⟩ = some (.slice A' n' c') := HB0w6.out.cell 5 rfl
        have y0 : w6.cell? ⟨g + 1, 0, none⟩ = some (.int .i64 q.k) := HB1w6.out.cell 0 rfl; have y1 : w6.cell? ⟨g + 1, 1, none⟩ = some (strV q.nm) := HB1w6.out.cell 1 rfl; have y2 : w6.cell? ⟨g + 1, 2, none⟩ = some (strV q.to) := HB1w6.out.cell 2 rfl; have y3 : w6.cell? ⟨g + 1, 3, none⟩ = some (.int .i64 q.h.pos) := HB1w6.out.cell 3 rfl; have y4 : w6.cell? ⟨g + 1, 4, none⟩ = some (.slice D m k) := HB1w6.out.cell 4 rfl; have y5 : w6.cell? ⟨g + 1, 5, none⟩ = some (.slice D' m' k') := HB1w6.out.cell 5 rfl
        have e3 := name_ne HBP.out HBQ.out (.inl H3.out.1)
        have e4 : (q.k == 2) = false := by rw [beq_eq_false_iff_ne]; have := H3.out.2; omega
        have u0 : w6.cell? ⟨g + 2, 0, none⟩ = some (.int .i64 0) := HB2w6.out.cell 0 rfl; have u1 : w6.cell? ⟨g + 2, 1, none⟩ = some (strV []) := HB2w6.out.cell 1 rfl; have u2 : w6.cell? ⟨g + 2, 2, none⟩ = some (strV []) := HB2w6.out.cell 2 rfl; have u3 : w6.cell? ⟨g + 2, 3, none⟩ = some (.int .i64 0) := HB2w6.out.cell 3 rfl; have u4 : w6.cell? ⟨g + 2, 4, none⟩ = some (.slice none 0 0) := HB2w6.out.cell 4 rfl; have u5 : w6.cell? ⟨g + 2, 5, none⟩ = some (.slice none 0 0) := HB2w6.out.cell 5 rfl
        have v0 : w6.cell? ⟨g + 3, 0, none⟩ = some (.int .i64 0) := HB3w6.out.cell 0 rfl; have v1 : w6.cell? ⟨g + 3, 1, none⟩ = some (strV []) := HB3w6.out.cell 1 rfl; have v2 : w6.cell? ⟨g + 3, 2, none⟩ = some (strV []) := HB3w6.out.cell 2 rfl; have v3 : w6.cell? ⟨g + 3, 3, none⟩ = some (.int .i64 0) := HB3w6.out.cell 3 rfl; have v4 : w6.cell? ⟨g + 3, 4, none⟩ = some (.slice none 0 0) := HB3w6.out.cell 4 rfl; have v5 : w6.cell? ⟨g + 3, 5, none⟩ = some (.slice none 0 0) := HB3w6.out.cell 5 rfl
        have f0 : w6.frozen? ⟨g + 2, 0, none⟩ = false := HB2w6.out.frozen 0; have f1 : w6.frozen? ⟨g + 2, 1, none⟩ = false := HB2w6.out.frozen 1; have f2 : w6.frozen? ⟨g + 2, 2, none⟩ = false := HB2w6.out.frozen 2; have f3 : w6.frozen? ⟨g + 2, 3, none⟩ = false := HB2w6.out.frozen 3; have f4 : w6.frozen? ⟨g + 2, 4, none⟩ = false := HB2w6.out.frozen 4; have f5 : w6.frozen? ⟨g + 2, 5, none⟩ = false := HB2w6.out.frozen 5
        have h0 : w6.frozen? ⟨g + 3, 0, none⟩ = false := HB3w6.out.frozen 0; have h1 : w6.frozen? ⟨g + 3, 1, none⟩ = false := HB3w6.out.frozen 1; have h2 : w6.frozen? ⟨g + 3, 2, none⟩ = false := HB3w6.out.frozen 2; have h3 : w6.frozen? ⟨g + 3, 3, none⟩ = false := HB3w6.out.frozen 3; have h4 : w6.frozen? ⟨g + 3, 4, none⟩ = false := HB3w6.out.frozen 4; have h5 : w6.frozen? ⟨g + 3, 5, none⟩ = false := HB3w6.out.frozen 5
        go_wp2_with fail
        obtain ⟨z2, z3⟩ := two_set6 HB2w6.out HB3w6.out (by omega) (.int .i64 0) (strV []) (strV []) (.int .i64 0) (.slice none 0 0) (.slice none 0 0) (.int .i64 0) (strV []) (strV []) (.int .i64 0) (.slice none 0 0) (.slice none 0 0)
        have hb6 := below_set12 (b := g + 2) (b' := g + 3) HWw6.out (by omega) (by omega) (.int .i64 0) (strV []) (strV []) (.int .i64 0) (.slice none 0 0) (.slice none 0 0) (.int .i64 0) (strV []) (strV []) (.int .i64 0) (.slice none 0 0) (.slice none 0 0)
        generalize (World.setCell (World.setCell (World.setCell (World.setCell (World.setCell (World.setCell (World.setCell (World.setCell (World.setCell (World.setCell (World.setCell (World.setCell w6 ⟨g + 2, 0, none⟩ (.int .i64 0)) ⟨g + 2, 1, none⟩ (strV [])) ⟨g + 2, 2, none⟩ (strV [])) ⟨g + 2, 3, none⟩ (.int .i64 0)) ⟨g + 2, 4, none⟩ (.slice none 0 0)) ⟨g + 2, 5, none⟩ (.slice none 0 0)) ⟨g + 3, 0, none⟩ (.int .i64 0)) ⟨g + 3, 1, none⟩ (strV [])) ⟨g + 3, 2, none⟩ (strV [])) ⟨g + 3, 3, none⟩ (.int .i64 0)) ⟨g + 3, 4, none⟩ (.slice none 0 0)) ⟨g + 3, 5, none⟩ (.slice none 0 0)) = W3 at *
        clear u0 u1 u2 u3 u4 u5 v0 v1 v2 v3 v4 v5 f0 f1 f2 f3 f4 f5 h0 h1 h2 h3 h4 h5
        have u0 : W3.cell? ⟨g + 2, 0, none⟩ = some (.int .i64 0) := z2.cell 0 rfl; have u1 : W3.cell? ⟨g + 2, 1, none⟩ = some (strV []) := z2.cell 1 rfl; have u2 : W3.cell? ⟨g + 2, 2, none⟩ = some (strV []) := z2.cell 2 rfl; have u3 : W3.cell? ⟨g + 2, 3, none⟩ = some (.int .i64 0) := z2.cell 3 rfl; have u4 : W3.cell? ⟨g + 2, 4, none⟩ = some (.slice none 0 0) := z2.cell 4 rfl; have u5 : W3.cell? ⟨g + 2, 5, none⟩ = some (.slice none 0 0) := z2.cell 5 rfl
        have v0 : W3.cell? ⟨g + 3, 0, none⟩ = some (.int .i64 0) := z3.cell 0 rfl; have v1 : W3.cell? ⟨g + 3, 1, none⟩ = some (strV []) := z3.cell 1 rfl; have v2 : W3.cell? ⟨g + 3, 2, none⟩ = some (strV []) := z3.cell 2 rfl; have v3 : W3.cell? ⟨g + 3, 3, none⟩ = some (.int .i64 0) := z3.cell 3 rfl; have v4 : W3.cell? ⟨g + 3, 4, none⟩ = some (.slice none 0 0) := z3.cell 4 rfl; have v5 : W3.cell? ⟨g + 3, 5, none⟩ = some (.slice none 0 0) := z3.cell 5 rfl
        try rw [Exit.noGoto_ret]
        refine bodyPost_ret (v := .tuple #[.agg #[.int .i64 0, strV [], strV [], .int .i64 0, .slice none 0 0, .slice none 0 0], .agg #[.int .i64 0, strV [], strV [], .int .i64 0, .slice none 0 0, .slice none 0 0], .bool false]) (by simp [results, Try.results74, go_sem, u0, v0, u1, v1, u2, v2, u3, v3, u4, v4, u5, v5]) rfl ?_
        have hW : Below w.heap.size w W3 := by rw [HGS.out]; exact hb6
        exact ppEndH_none HO.out HBB.out HN.out hW
      | some z =>
        obtain ⟨hx, hy⟩ := z
        have HS : Hid (passP p q = some (⟨q.k, q.nm, q.to, hx⟩, ⟨p.k, p.nm, p.to, hy⟩)) := Lib.hid (by rw [passP_b HBP.out HBQ.out HBA.out H3.out.1 H3.out.2, hz]; rfl)
        have hz0 : Sw.outH (Sw.passH p.h q.h) = (hx, hy) := by rw [hz]; rfl
        obtain ⟨E1, i1, j1, E2, i2, j2, G1, k1, l1, G2, k2, l2, he, v1, v2, hhi, _⟩ := hend
        rw [hz0, hz] at he
        rw [hz0] at v1 v2
        have he' : e = .returned (.tuple #[Hk.hkV hx.pos E1 i1 j1 E2 i2 j2, Hk.hkV hy.pos G1 k1 l1 G2 k2 l2, .bool true]) := he
        replace v1 : HV w5 w5.heap.size E1 i1 j1 E2 i2 j2 hx := v1
        replace v2 : HV w5 w5.heap.size G1 k1 l1 G2 k2 l2 hy := v2
        clear he
        subst he'
        obtain ⟨_, r1, r2, r3, r4⟩ := Sw.pass_moves (x := hx) (y := hy) (Sw.passH_may hz).2.2.1
        have gl2 : (i1 ≤ 1000 ∧ i2 ≤ 1000) ∧ (k1 ≤ 1000 ∧ k2 ≤ 1000) := by
          have a1 := v1.l; have a2 := v1.l'; have a3 := v2.l; have a4 := v2.l'
          have b1 := GV0.out.h.l; have b2 := GV0.out.h.l'; have b3 := HV0.out.h.l; have b4 := HV0.out.h.l'
          have c1 := HL.out; have c2 := GL.out
          rw [r1] at a1; rw [r2] at a2; rw [r3] at a3; rw [r4] at a4
          omega
        have GL2 := Lib.hid gl2
        have V1 : Hid (PV w5 w5.heap.size E1 i1 j1 E2 i2 j2 ⟨q.k, q.nm, q.to, hx⟩) := Lib.hid (GV0.out.hunk v1 r1 r2)
        have V2 : Hid (PV w5 w5.heap.size G1 k1 l1 G2 k2 l2 ⟨p.k, p.nm, p.to, hy⟩) := Lib.hid (HV0.out.hunk v2 r3 r4)
        have hhi1 : Hi w4.heap.size E1 ∧ Hi w4.heap.size E2 ∧ Hi w4.heap.size G1 ∧ Hi w4.heap.size G2 := hhi
        have HHI := Lib.hid (And.intro hhi1 (And.intro HBTw4.out.lt HBUw4.out.lt))
        clear hz hz0 r1 r2 r3 r4 v1 v2 gl2 hhi hhi1
        have HVw5 := Lib.hid (HVw4.out.mv hb); have GVw5 := Lib.hid (GVw4.out.mv hb); clear HVw4 GVw4
        have HWw5 := Lib.hid (HWw4.out.trans (hb.mono HGw4.out)); have HGw5 := Lib.hid (Nat.le_trans HGw4.out hb.size)
        have HB0w5 := Lib.hid (HB0w4.out.below hb HB0w4.out.lt); have HB1w5 := Lib.hid (HB1w4.out.below hb HB1w4.out.lt); have HB2w5 := Lib.hid (HB2w4.out.below hb HB2w4.out.lt); have HB3w5 := Lib.hid (HB3w4.out.below hb HB3w4.out.lt); have HBTw5 := Lib.hid (HBTw4.out.below hb HBTw4.out.lt); have HBUw5 := Lib.hid (HBUw4.out.below hb HBUw4.out.lt)
        clear hb HWw4 HGw4 HB0w4 HB1w4 HB2w4 HB3w4 HBTw4 HBUw4
        go_upto_region 10 with fail
        have hb : Below w5.heap.size w5 ((w5.alloc (.cells #[.int .i64 hx.pos, .slice E1 i1 j1, .slice E2 i2 j2] 52)).alloc (.cells #[.int .i64 hy.pos, .slice G1 k1 l1, .slice G2 k2 l2] 52)) := two_box _ _ _
        have HBX := Lib.hid ((Blk.new w5 52 #[.int .i64 hx.pos, .slice E1 i1 j1, .slice E2 i2 j2]).alloc (.cells #[.int .i64 hy.pos, .slice G1 k1 l1, .slice G2 k2 l2] 52))
        have hby := Blk.new (w5.alloc (.cells #[.int .i64 hx.pos, .slice E1 i1 j1, .slice E2 i2 j2] 52)) 52 #[.int .i64 hy.pos, .slice G1 k1 l1, .slice G2 k2 l2]
        simp only [World.size_alloc] at hby
        have HBY := Lib.hid hby
        clear hby
        have HVw6 := Lib.hid (HVw5.out.mv hb); have GVw6 := Lib.hid (GVw5.out.mv hb); clear HVw5 GVw5
        have HG5 := Lib.hid (show T < w5.heap.size ∧ U < w5.heap.size from ⟨HBTw5.out.lt, HBUw5.out.lt⟩)
        have V1w6 := Lib.hid (V1.out.mv hb); have V2w6 := Lib.hid (V2.out.mv hb); clear V1 V2
        have HWw6 := Lib.hid (HWw5.out.trans (hb.mono HGw5.out)); have HGw6 := Lib.hid (Nat.le_trans HGw5.out hb.size)
        have HB0w6 := Lib.hid (HB0w5.out.below hb HB0w5.out.lt); have HB1w6 := Lib.hid (HB1w5.out.below hb HB1w5.out.lt); have HB2w6 := Lib.hid (HB2w5.out.below hb HB2w5.out.lt); have HB3w6 := Lib.hid (HB3w5.out.below hb HB3w5.out.lt); have HBTw6 := Lib.hid (HBTw5.out.below hb HBTw5.out.lt); have HBUw6 := Lib.hid (HBUw5.out.below hb HBUw5.out.lt)
        clear hb HWw5 HGw5 HB0w5 HB1w5 HB2w5 HB3w5 HBTw5 HBUw5
        generalize ((w5.alloc (.cells #[.int .i64 hx.pos, .slice E1 i1 j1, .slice E2 i2 j2] 52)).alloc (.cells #[.int .i64 hy.pos, .slice G1 k1 l1, .slice G2 k2 l2] 52)) = w6 at *
        generalize w5.heap.size = g5 at *
        have a0 : w6.cell? ⟨g5, 0, none⟩ = some (.int .i64 hx.pos) := HBX.out.cell 0 rfl; have a1 : w6.cell? ⟨g5, 1, none⟩ = some (.slice E1 i1 j1) := HBX.out.cell 1 rfl; have a2 : w6.cell? ⟨g5, 2, none⟩ = some (.slice E2 i2 j2) := HBX.out.cell 2 rfl
        have b0 : w6.cell? ⟨g5 + 1, 0, none⟩ = some (.int .i64 hy.pos) := HBY.out.cell 0 rfl; have b1 : w6.cell? ⟨g5 + 1, 1, none⟩ = some (.slice G1 k1 l1) := HBY.out.cell 1 rfl; have b2 : w6.cell? ⟨g5 + 1, 2, none⟩ = some (.slice G2 k2 l2) := HBY.out.cell 2 rfl
        have t0 : w6.cell? ⟨T, 0, none⟩ = some (.int .i64 q.k) := HBTw6.out.cell 0 rfl; have t1 : w6.cell? ⟨T, 1, none⟩ = some (strV q.nm) := HBTw6.out.cell 1 rfl; have t2 : w6.cell? ⟨T, 2, none⟩ = some (strV q.to) := HBTw6.out.cell 2 rfl; have t3 : w6.cell? ⟨T, 3, none⟩ = some (.int .i64 q.h.pos) := HBTw6.out.cell 3 rfl; have t4 : w6.cell? ⟨T, 4, none⟩ = some (.slice D m k) := HBTw6.out.cell 4 rfl; have t5 : w6.cell? ⟨T, 5, none⟩ = some (.slice D' m' k') := HBTw6.out.cell 5 rfl
        have s0 : w6.cell? ⟨U, 0, none⟩ = some (.int .i64 p.k) := HBUw6.out.cell 0 rfl; have s1 : w6.cell? ⟨U, 1, none⟩ = some (strV p.nm) := HBUw6.out.cell 1 rfl; have s2 : w6.cell? ⟨U, 2, none⟩ = some (strV p.to) := HBUw6.out.cell 2 rfl; have s3 : w6.cell? ⟨U, 3, none⟩ = some (.int .i64 p.h.pos) := HBUw6.out.cell 3 rfl; have s4 : w6.cell? ⟨U, 4, none⟩ = some (.slice A n c) := HBUw6.out.cell 4 rfl; have s5 : w6.cell? ⟨U, 5, none⟩ = some (.slice A' n' c') := HBUw6.out.cell 5 rfl
        have k3 : w6.frozen? ⟨T, 3, none⟩ = false := HBTw6.out.frozen 3; have k4 : w6.frozen? ⟨T, 4, none⟩ = false := HBTw6.out.frozen 4; have k5 : w6.frozen? ⟨T, 5, none⟩ = false := HBTw6.out.frozen 5
        have l3 : w6.frozen? ⟨U, 3, none⟩ = false := HBUw6.out.frozen 3; have l4 : w6.frozen? ⟨U, 4, none⟩ = false := HBUw6.out.frozen 4; have l5 : w6.frozen? ⟨U, 5, none⟩ = false := HBUw6.out.frozen 5
        have hn1 := HNE.out; have hn2 := HNE.out.symm; have hg5 := HG5.out.1; have hg6 := HG5.out.2
        go_upto_region 11 with fail
        go_region
        go_wp2_with fail
        have HBTw7 := Lib.hid (three_set (b' := U) (blk3 HBTw6.out (.int .i64 hx.pos) (.slice E1 i1 j1) (.slice E2 i2 j2)) HNE.out (.int .i64 hy.pos) (.slice G1 k1 l1) (.slice G2 k2 l2))
        have HBUw7 := Lib.hid (blk3 (three_set (b' := T) HBUw6.out HNE.out.symm (.int .i64 hx.pos) (.slice E1 i1 j1) (.slice E2 i2 j2)) (.int .i64 hy.pos) (.slice G1 k1 l1) (.slice G2 k2 l2))
        have HB2w7 := Lib.hid (three_set (b' := U) (three_set (b' := T) HB2w6.out (by have := HgT.out; omega) (.int .i64 hx.pos) (.slice E1 i1 j1) (.slice E2 i2 j2)) (by have := HgT.out; omega) (.int .i64 hy.pos) (.slice G1 k1 l1) (.slice G2 k2 l2))
        have HB3w7 := Lib.hid (three_set (b' := U) (three_set (b' := T) HB3w6.out (by have := HgT.out; omega) (.int .i64 hx.pos) (.slice E1 i1 j1) (.slice E2 i2 j2)) (by have := HgT.out; omega) (.int .i64 hy.pos) (.slice G1 k1 l1) (.slice G2 k2 l2))
        have HP1 : Hid (PV (World.setCell (World.setCell (World.setCell (World.setCell (World.setCell (World.setCell w6 ⟨T, 3, none⟩ (.int .i64 hx.pos)) ⟨T, 4, none⟩ (.slice E1 i1 j1)) ⟨T, 5, none⟩ (.slice E2 i2 j2)) ⟨U, 3, none⟩ (.int .i64 hy.pos)) ⟨U, 4, none⟩ (.slice G1 k1 l1)) ⟨U, 5, none⟩ (.slice G2 k2 l2)) w6.heap.size E1 i1 j1 E2 i2 j2 ⟨q.k, q.nm, q.to, hx⟩) := Lib.hid ((((((V1w6.out.hi HHI.out.1.1 HHI.out.1.2.1 HHI.out.2.1 3 _).hi HHI.out.1.1 HHI.out.1.2.1 HHI.out.2.1 4 _).hi HHI.out.1.1 HHI.out.1.2.1 HHI.out.2.1 5 _).hi HHI.out.1.1 HHI.out.1.2.1 HHI.out.2.2 3 _).hi HHI.out.1.1 HHI.out.1.2.1 HHI.out.2.2 4 _).hi HHI.out.1.1 HHI.out.1.2.1 HHI.out.2.2 5 _)
        have HP2 : Hid (PV (World.setCell (World.setCell (World.setCell (World.setCell (World.setCell (World.setCell w6 ⟨T, 3, none⟩ (.int .i64 hx.pos)) ⟨T, 4, none⟩ (.slice E1 i1 j1)) ⟨T, 5, none⟩ (.slice E2 i2 j2)) ⟨U, 3, none⟩ (.int .i64 hy.pos)) ⟨U, 4, none⟩ (.slice G1 k1 l1)) ⟨U, 5, none⟩ (.slice G2 k2 l2)) w6.heap.size G1 k1 l1 G2 k2 l2 ⟨p.k, p.nm, p.to, hy⟩) := Lib.hid ((((((V2w6.out.hi HHI.out.1.2.2.1 HHI.out.1.2.2.2 HHI.out.2.1 3 _).hi HHI.out.1.2.2.1 HHI.out.1.2.2.2 HHI.out.2.1 4 _).hi HHI.out.1.2.2.1 HHI.out.1.2.2.2 HHI.out.2.1 5 _).hi HHI.out.1.2.2.1 HHI.out.1.2.2.2 HHI.out.2.2 3 _).hi HHI.out.1.2.2.1 HHI.out.1.2.2.2 HHI.out.2.2 4 _).hi HHI.out.1.2.2.1 HHI.out.1.2.2.2 HHI.out.2.2 5 _)
        have HWw7 : Hid (Below g w (World.setCell (World.setCell (World.setCell (World.setCell (World.setCell (World.setCell w6 ⟨T, 3, none⟩ (.int .i64 hx.pos)) ⟨T, 4, none⟩ (.slice E1 i1 j1)) ⟨T, 5, none⟩ (.slice E2 i2 j2)) ⟨U, 3, none⟩ (.int .i64 hy.pos)) ⟨U, 4, none⟩ (.slice G1 k1 l1)) ⟨U, 5, none⟩ (.slice G2 k2 l2))) := Lib.hid ((((((HWw6.out.setCell (p := ⟨T, 3, none⟩) (by have := HgT.out; show g ≤ T; omega) (.int .i64 hx.pos)).setCell (p := ⟨T, 4, none⟩) (by have := HgT.out; show g ≤ T; omega) (.slice E1 i1 j1)).setCell (p := ⟨T, 5, none⟩) (by have := HgT.out; show g ≤ T; omega) (.slice E2 i2 j2)).setCell (p := ⟨U, 3, none⟩) (by have := HgT.out; show g ≤ U; omega) (.int .i64 hy.pos)).setCell (p := ⟨U, 4, none⟩) (by have := HgT.out; show g ≤ U; omega) (.slice G1 k1 l1)).setCell (p := ⟨U, 5, none⟩) (by have := HgT.out; show g ≤ U; omega) (.slice G2 k2 l2))
        have HSZ : Hid ((World.setCell (World.setCell (World.setCell (World.setCell (World.setCell (World.setCell w6 ⟨T, 3, none⟩ (.int .i64 hx.pos)) ⟨T, 4, none⟩ (.slice E1 i1 j1)) ⟨T, 5, none⟩ (.slice E2 i2 j2)) ⟨U, 3, none⟩ (.int .i64 hy.pos)) ⟨U, 4, none⟩ (.slice G1 k1 l1)) ⟨U, 5, none⟩ (.slice G2 k2 l2)).heap.size = w6.heap.size) := Lib.hid (by simp)
        go_meet
        first
          | (exact ⟨_, _, E1, i1, j1, E2, i2, j2, G1, k1, l1, G2, k2, l2, HS.out, (HBTw7.out.drewN 1), (HBUw7.out.drewN 1), (HB2w7.out.drewN 1), (HB3w7.out.drewN 1), ((HP1.out.drewN 1)).up (Nat.le_of_eq HSZ.out.symm), ((HP2.out.drewN 1)).up (Nat.le_of_eq HSZ.out.symm), GL2.out.1, GL2.out.2, (below_drewN HWw7.out 1)⟩)
          | (exact ⟨_, _, E1, i1, j1, E2, i2, j2, G1, k1, l1, G2, k2, l2, HS.out, HBTw7.out, HBUw7.out, HB2w7.out, HB3w7.out, (HP1.out).up (Nat.le_of_eq HSZ.out.symm), (HP2.out).up (Nat.le_of_eq HSZ.out.symm), GL2.out.1, GL2.out.2, HWw7.out⟩)
    by_cases hi : q.k = 2 ∧ (p.k = 3 ∨ p.k = 4) ∧ p.nm = q.nm
    · have e4 : (q.k == 2) = true := by simpa using hi.1
      have e5 : (q.nm == p.nm) = true := by simpa using hi.2.2.symm
      have e6 : (q.k == 3) = false := by rw [beq_eq_false_iff_ne]; have := hi.1; omega
      have HS : Hid (passP p q = some (q, ⟨p.k, q.to, p.to, p.h⟩)) := Lib.hid (passP_i HBP.out HBQ.out HBA.out hi.1 hi.2.1 hi.2.2)
      have HI := Lib.hid hi
      clear hi h3
      have s0 : w4.cell? ⟨U, 0, none⟩ = some (.int .i64 p.k) := HBUw4.out.cell 0 rfl; have s1 : w4.cell? ⟨U, 1, none⟩ = some (strV p.nm) := HBUw4.out.cell 1 rfl; have s2 : w4.cell? ⟨U, 2, none⟩ = some (strV p.to) := HBUw4.out.cell 2 rfl; have s3 : w4.cell? ⟨U, 3, none⟩ = some (.int .i64 p.h.pos) := HBUw4.out.cell 3 rfl; have s4 : w4.cell? ⟨U, 4, none⟩ = some (.slice A n c) := HBUw4.out.cell 4 rfl; have s5 : w4.cell? ⟨U, 5, none⟩ = some (.slice A' n' c') := HBUw4.out.cell 5 rfl
      have l1 : w4.frozen? ⟨U, 1, none⟩ = false := HBUw4.out.frozen 1
      have HBUw6 := Lib.hid (show Blk (World.setCell w4 ⟨U, 1, none⟩ (strV q.to)) U 54 #[.int .i64 p.k, strV q.to, strV p.to, .int .i64 p.h.pos, .slice A n c, .slice A' n' c'] from HBUw4.out.set 1 (strV q.to))
      have HBTw6 := Lib.hid (HBTw4.out.set_ne HNE.out 1 (strV q.to))
      have HB2w6 := Lib.hid (HB2w4.out.set_ne (show g + 2 ≠ U from by have := HgT.out; omega) 1 (strV q.to))
      have HB3w6 := Lib.hid (HB3w4.out.set_ne (show g + 3 ≠ U from by have := HgT.out; omega) 1 (strV q.to))
      have HWw6 := Lib.hid (HWw4.out.setCell (p := ⟨U, 1, none⟩) (by have := HgT.out; show g ≤ U; omega) (strV q.to))
      have hw6 : Below w.heap.size w (World.setCell w4 ⟨U, 1, none⟩ (strV q.to)) := by rw [HGS.out]; exact HWw6.out
      have HP1 := Lib.hid (GV0.out.mv hw6); have HP2 := Lib.hid ((HV0.out.mv hw6).name q.to GV0.out.to)
      clear hw6
      rcases (show (p.k == 3) = true ∨ (p.k == 3) = false ∧ (p.k == 4) = true from by
        rcases HI.out.2.1 with h | h
        · exact .inl (by simpa using h)
        · exact .inr ⟨by rw [beq_eq_false_iff_ne]; omega, by simpa using h⟩) with e1 | ⟨e1, e2⟩
      all_goals
        go_wp2_with fail
        go_meet
        exact ⟨_, _, D, m, k, D', m', k', A, n, c, A', n', c', HS.out, HBTw6.out, HBUw6.out, HB2w6.out, HB3w6.out, HP1.out, HP2.out, GL.out, HL.out, HWw6.out⟩
    by_cases ho : p.k = 2 ∧ (q.k = 3 ∨ q.k = 4) ∧ q.nm = p.to
    · have e1 : (p.k == 3) = false := by rw [beq_eq_false_iff_ne]; have := ho.1; omega
      have e2 : (p.k == 4) = false := by rw [beq_eq_false_iff_ne]; have := ho.1; omega
      have e3 : (p.k == 2) = true := by simpa using ho.1
      have e5 : (q.nm == p.to) = true := by simpa using ho.2.2
      have HS : Hid (passP p q = some (⟨q.k, p.nm, q.to, q.h⟩, p)) := Lib.hid (passP_o HBP.out HBQ.out HBA.out ho.1 ho.2.1 ho.2.2)
      have HO1 := Lib.hid ho
      clear hi ho h3
      have t0 : w4.cell? ⟨T, 0, none⟩ = some (.int .i64 q.k) := HBTw4.out.cell 0 rfl; have t1 : w4.cell? ⟨T, 1, none⟩ = some (strV q.nm) := HBTw4.out.cell 1 rfl; have t2 : w4.cell? ⟨T, 2, none⟩ = some (strV q.to) := HBTw4.out.cell 2 rfl; have t3 : w4.cell? ⟨T, 3, none⟩ = some (.int .i64 q.h.pos) := HBTw4.out.cell 3 rfl; have t4 : w4.cell? ⟨T, 4, none⟩ = some (.slice D m k) := HBTw4.out.cell 4 rfl; have t5 : w4.cell? ⟨T, 5, none⟩ = some (.slice D' m' k') := HBTw4.out.cell 5 rfl
      have l1 : w4.frozen? ⟨T, 1, none⟩ = false := HBTw4.out.frozen 1
      have HBTw6 := Lib.hid (show Blk (World.setCell w4 ⟨T, 1, none⟩ (strV p.nm)) T 54 #[.int .i64 q.k, strV p.nm, strV q.to, .int .i64 q.h.pos, .slice D m k, .slice D' m' k'] from HBTw4.out.set 1 (strV p.nm))
      have HBUw6 := Lib.hid (HBUw4.out.set_ne HNE.out.symm 1 (strV p.nm))
      have HB2w6 := Lib.hid (HB2w4.out.set_ne (show g + 2 ≠ T from by have := HgT.out; omega) 1 (strV p.nm))
      have HB3w6 := Lib.hid (HB3w4.out.set_ne (show g + 3 ≠ T from by have := HgT.out; omega) 1 (strV p.nm))
      have HWw6 := Lib.hid (HWw4.out.setCell (p := ⟨T, 1, none⟩) (by have := HgT.out; show g ≤ T; omega) (strV p.nm))
      have hw6 : Below w.heap.size w (World.setCell w4 ⟨T, 1, none⟩ (strV p.nm)) := by rw [HGS.out]; exact HWw6.out
      have HP1 := Lib.hid ((GV0.out.mv hw6).name p.nm HV0.out.nm); have HP2 := Lib.hid (HV0.out.mv hw6)
      clear hw6
      rcases (show (q.k == 3) = true ∨ (q.k == 3) = false ∧ (q.k == 4) = true from by
        rcases HO1.out.2.1 with h | h
        · exact .inl (by simpa using h)
        · exact .inr ⟨by rw [beq_eq_false_iff_ne]; omega, by simpa using h⟩) with e6 | ⟨e6, e7⟩
      all_goals
        go_wp2_with fail
        go_meet
        exact ⟨_, _, D, m, k, D', m', k', A, n, c, A', n', c', HS.out, HBTw6.out, HBUw6.out, HB2w6.out, HB3w6.out, HP1.out, HP2.out, GL.out, HL.out, HWw6.out⟩
    have HN : Hid (passP p q = none) := Lib.hid (passP_n HBA.out h3 ho hi)
    have hw : ((p.k == 3) = true ∧ (q.k == 3) = false ∨ (p.k == 3) = false ∧ (p.k == 4) = true) ∧ (q.nm == p.to) = false ∧ ((q.k == 2) = false ∨ (q.k == 2) = true ∧ (q.nm == p.nm) = false) ∨
        ((p.k == 3) = false ∧ (p.k == 4) = false) ∧ (p.k == 2) = true ∧ ((q.k == 3) = false ∧ (q.k == 4) = false ∨ (q.nm == p.to) = false) ∨
        (p.k == 3) = false ∧ (p.k == 4) = false ∧ (p.k == 2) = false := by
      by_cases k3 : p.k = 3 ∨ p.k = 4
      · refine .inl ⟨?_, name_ne HBP.out HBQ.out k3, ?_⟩
        · rcases k3 with k3 | k3
          · exact .inl ⟨by simpa using k3, by rw [beq_eq_false_iff_ne]; exact fun h => h3 ⟨k3, h⟩⟩
          · exact .inr ⟨by rw [beq_eq_false_iff_ne]; omega, by simpa using k3⟩
        · by_cases k2 : q.k = 2
          · exact .inr ⟨by simpa using k2, by rw [beq_eq_false_iff_ne]; exact fun h => hi ⟨k2, k3, h.symm⟩⟩
          · exact .inl (by simpa using k2)
      · have a3 : (p.k == 3) = false := by rw [beq_eq_false_iff_ne]; omega
        have a4 : (p.k == 4) = false := by rw [beq_eq_false_iff_ne]; omega
        by_cases k2 : p.k = 2
        · refine .inr (.inl ⟨⟨a3, a4⟩, by simpa using k2, ?_⟩)
          by_cases kq : q.k = 3 ∨ q.k = 4
          · exact .inr (by rw [beq_eq_false_iff_ne]; exact fun h => ho ⟨k2, kq, h⟩)
          · exact .inl ⟨by rw [beq_eq_false_iff_ne]; omega, by rw [beq_eq_false_iff_ne]; omega⟩
        · exact .inr (.inr ⟨a3, a4, by simpa using k2⟩)
    clear h3 ho hi
    have HWAY := Lib.hid hw; clear hw
    have hq3 : ∀ z : Bool, z = true ∨ z = false := fun z => by cases z <;> simp
    have HQ3 := Lib.hid (hq3 (q.k == 3)); have HQ4 := Lib.hid (hq3 (q.k == 4)); clear hq3
    rcases HWAY.out with ⟨h1, e5, h2⟩ | ⟨⟨e1, e2⟩, e3, h2⟩ | ⟨e1, e2, e3⟩
    · rcases h1 with ⟨e1, e2⟩ | ⟨e1, e2⟩ <;> rcases h2 with e6 | ⟨e6, e7⟩ <;> rcases HQ3.out with c1 | c1 <;> rcases HQ4.out with c2 | c2 <;> try (exfalso; first | exact Bool.false_ne_true (e2.symm.trans c1) | exact k_absurd c1 c2 | exact k_absurd2 c1 e6 | exact k_absurd3 c2 e6; done)
      all_goals
        have u0 : w4.cell? ⟨g + 2, 0, none⟩ = some (.int .i64 0) := HB2w4.out.cell 0 rfl; have u1 : w4.cell? ⟨g + 2, 1, none⟩ = some (strV []) := HB2w4.out.cell 1 rfl; have u2 : w4.cell? ⟨g + 2, 2, none⟩ = some (strV []) := HB2w4.out.cell 2 rfl; have u3 : w4.cell? ⟨g + 2, 3, none⟩ = some (.int .i64 0) := HB2w4.out.cell 3 rfl; have u4 : w4.cell? ⟨g + 2, 4, none⟩ = some (.slice none 0 0) := HB2w4.out.cell 4 rfl; have u5 : w4.cell? ⟨g + 2, 5, none⟩ = some (.slice none 0 0) := HB2w4.out.cell 5 rfl
        have v0 : w4.cell? ⟨g + 3, 0, none⟩ = some (.int .i64 0) := HB3w4.out.cell 0 rfl; have v1 : w4.cell? ⟨g + 3, 1, none⟩ = some (strV []) := HB3w4.out.cell 1 rfl; have v2 : w4.cell? ⟨g + 3, 2, none⟩ = some (strV []) := HB3w4.out.cell 2 rfl; have v3 : w4.cell? ⟨g + 3, 3, none⟩ = some (.int .i64 0) := HB3w4.out.cell 3 rfl; have v4 : w4.cell? ⟨g + 3, 4, none⟩ = some (.slice none 0 0) := HB3w4.out.cell 4 rfl; have v5 : w4.cell? ⟨g + 3, 5, none⟩ = some (.slice none 0 0) := HB3w4.out.cell 5 rfl
        have f0 : w4.frozen? ⟨g + 2, 0, none⟩ = false := HB2w4.out.frozen 0; have f1 : w4.frozen? ⟨g + 2, 1, none⟩ = false := HB2w4.out.frozen 1; have f2 : w4.frozen? ⟨g + 2, 2, none⟩ = false := HB2w4.out.frozen 2; have f3 : w4.frozen? ⟨g + 2, 3, none⟩ = false := HB2w4.out.frozen 3; have f4 : w4.frozen? ⟨g + 2, 4, none⟩ = false := HB2w4.out.frozen 4; have f5 : w4.frozen? ⟨g + 2, 5, none⟩ = false := HB2w4.out.frozen 5
        have h0 : w4.frozen? ⟨g + 3, 0, none⟩ = false := HB3w4.out.frozen 0; have h1 : w4.frozen? ⟨g + 3, 1, none⟩ = false := HB3w4.out.frozen 1; have h2 : w4.frozen? ⟨g + 3, 2, none⟩ = false := HB3w4.out.frozen 2; have h3 : w4.frozen? ⟨g + 3, 3, none⟩ = false := HB3w4.out.frozen 3; have h4 : w4.frozen? ⟨g + 3, 4, none⟩ = false := HB3w4.out.frozen 4; have h5 : w4.frozen? ⟨g + 3, 5, none⟩ = false := HB3w4.out.frozen 5
        go_wp2_with fail
        obtain ⟨z2, z3⟩ := two_set6 HB2w4.out HB3w4.out (by omega) (.int .i64 0) (strV []) (strV []) (.int .i64 0) (.slice none 0 0) (.slice none 0 0) (.int .i64 0) (strV []) (strV []) (.int .i64 0) (.slice none 0 0) (.slice none 0 0)
        have hb6 := below_set12 (b := g + 2) (b' := g + 3) HWw4.out (by omega) (by omega) (.int .i64 0) (strV []) (strV []) (.int .i64 0) (.slice none 0 0) (.slice none 0 0) (.int .i64 0) (strV []) (strV []) (.int .i64 0) (.slice none 0 0) (.slice none 0 0)
        generalize (World.setCell (World.setCell (World.setCell (World.setCell (World.setCell (World.setCell (World.setCell (World.setCell (World.setCell (World.setCell (World.setCell (World.setCell w4 ⟨g + 2, 0, none⟩ (.int .i64 0)) ⟨g + 2, 1, none⟩ (strV [])) ⟨g + 2, 2, none⟩ (strV [])) ⟨g + 2, 3, none⟩ (.int .i64 0)) ⟨g + 2, 4, none⟩ (.slice none 0 0)) ⟨g + 2, 5, none⟩ (.slice none 0 0)) ⟨g + 3, 0, none⟩ (.int .i64 0)) ⟨g + 3, 1, none⟩ (strV [])) ⟨g + 3, 2, none⟩ (strV [])) ⟨g + 3, 3, none⟩ (.int .i64 0)) ⟨g + 3, 4, none⟩ (.slice none 0 0)) ⟨g + 3, 5, none⟩ (.slice none 0 0)) = W3 at *
        clear u0 u1 u2 u3 u4 u5 v0 v1 v2 v3 v4 v5 f0 f1 f2 f3 f4 f5 h0 h1 h2 h3 h4 h5
        have u0 : W3.cell? ⟨g + 2, 0, none⟩ = some (.int .i64 0) := z2.cell 0 rfl; have u1 : W3.cell? ⟨g + 2, 1, none⟩ = some (strV []) := z2.cell 1 rfl; have u2 : W3.cell? ⟨g + 2, 2, none⟩ = some (strV []) := z2.cell 2 rfl; have u3 : W3.cell? ⟨g + 2, 3, none⟩ = some (.int .i64 0) := z2.cell 3 rfl; have u4 : W3.cell? ⟨g + 2, 4, none⟩ = some (.slice none 0 0) := z2.cell 4 rfl; have u5 : W3.cell? ⟨g + 2, 5, none⟩ = some (.slice none 0 0) := z2.cell 5 rfl
        have v0 : W3.cell? ⟨g + 3, 0, none⟩ = some (.int .i64 0) := z3.cell 0 rfl; have v1 : W3.cell? ⟨g + 3, 1, none⟩ = some (strV []) := z3.cell 1 rfl; have v2 : W3.cell? ⟨g + 3, 2, none⟩ = some (strV []) := z3.cell 2 rfl; have v3 : W3.cell? ⟨g + 3, 3, none⟩ = some (.int .i64 0) := z3.cell 3 rfl; have v4 : W3.cell? ⟨g + 3, 4, none⟩ = some (.slice none 0 0) := z3.cell 4 rfl; have v5 : W3.cell? ⟨g + 3, 5, none⟩ = some (.slice none 0 0) := z3.cell 5 rfl
        try rw [Exit.noGoto_ret]
        refine bodyPost_ret (v := .tuple #[.agg #[.int .i64 0, strV [], strV [], .int .i64 0, .slice none 0 0, .slice none 0 0], .agg #[.int .i64 0, strV [], strV [], .int .i64 0, .slice none 0 0, .slice none 0 0], .bool false]) (by simp [results, Try.results74, go_sem, u0, v0, u1, v1, u2, v2, u3, v3, u4, v4, u5, v5]) rfl ?_
        have hW : Below w.heap.size w W3 := by rw [HGS.out]; exact hb6
        exact ppEndH_none HO.out HBB.out HN.out hW
    · rcases HQ3.out with c1 | c1 <;> rcases HQ4.out with c2 | c2 <;> rcases h2 with ⟨e5, e6⟩ | e5 <;> try (exfalso; first | exact Bool.false_ne_true (e5.symm.trans c1) | exact Bool.false_ne_true (e6.symm.trans c2) | exact k_absurd c1 c2; done)
      all_goals
        have u0 : w4.cell? ⟨g + 2, 0, none⟩ = some (.int .i64 0) := HB2w4.out.cell 0 rfl; have u1 : w4.cell? ⟨g + 2, 1, none⟩ = some (strV []) := HB2w4.out.cell 1 rfl; have u2 : w4.cell? ⟨g + 2, 2, none⟩ = some (strV []) := HB2w4.out.cell 2 rfl; have u3 : w4.cell? ⟨g + 2, 3, none⟩ = some (.int .i64 0) := HB2w4.out.cell 3 rfl; have u4 : w4.cell? ⟨g + 2, 4, none⟩ = some (.slice none 0 0) := HB2w4.out.cell 4 rfl; have u5 : w4.cell? ⟨g + 2, 5, none⟩ = some (.slice none 0 0) := HB2w4.out.cell 5 rfl
        have v0 : w4.cell? ⟨g + 3, 0, none⟩ = some (.int .i64 0) := HB3w4.out.cell 0 rfl; have v1 : w4.cell? ⟨g + 3, 1, none⟩ = some (strV []) := HB3w4.out.cell 1 rfl; have v2 : w4.cell? ⟨g + 3, 2, none⟩ = some (strV []) := HB3w4.out.cell 2 rfl; have v3 : w4.cell? ⟨g + 3, 3, none⟩ = some (.int .i64 0) := HB3w4.out.cell 3 rfl; have v4 : w4.cell? ⟨g + 3, 4, none⟩ = some (.slice none 0 0) := HB3w4.out.cell 4 rfl; have v5 : w4.cell? ⟨g + 3, 5, none⟩ = some (.slice none 0 0) := HB3w4.out.cell 5 rfl
        have f0 : w4.frozen? ⟨g + 2, 0, none⟩ = false := HB2w4.out.frozen 0; have f1 : w4.frozen? ⟨g + 2, 1, none⟩ = false := HB2w4.out.frozen 1; have f2 : w4.frozen? ⟨g + 2, 2, none⟩ = false := HB2w4.out.frozen 2; have f3 : w4.frozen? ⟨g + 2, 3, none⟩ = false := HB2w4.out.frozen 3; have f4 : w4.frozen? ⟨g + 2, 4, none⟩ = false := HB2w4.out.frozen 4; have f5 : w4.frozen? ⟨g + 2, 5, none⟩ = false := HB2w4.out.frozen 5
        have h0 : w4.frozen? ⟨g + 3, 0, none⟩ = false := HB3w4.out.frozen 0; have h1 : w4.frozen? ⟨g + 3, 1, none⟩ = false := HB3w4.out.frozen 1; have h2 : w4.frozen? ⟨g + 3, 2, none⟩ = false := HB3w4.out.frozen 2; have h3 : w4.frozen? ⟨g + 3, 3, none⟩ = false := HB3w4.out.frozen 3; have h4 : w4.frozen? ⟨g + 3, 4, none⟩ = false := HB3w4.out.frozen 4; have h5 : w4.frozen? ⟨g + 3, 5, none⟩ = false := HB3w4.out.frozen 5
        go_wp2_with fail
        obtain ⟨z2, z3⟩ := two_set6 HB2w4.out HB3w4.out (by omega) (.int .i64 0) (strV []) (strV []) (.int .i64 0) (.slice none 0 0) (.slice none 0 0) (.int .i64 0) (strV []) (strV []) (.int .i64 0) (.slice none 0 0) (.slice none 0 0)
        have hb6 := below_set12 (b := g + 2) (b' := g + 3) HWw4.out (by omega) (by omega) (.int .i64 0) (strV []) (strV []) (.int .i64 0) (.slice none 0 0) (.slice none 0 0) (.int .i64 0) (strV []) (strV []) (.int .i64 0) (.slice none 0 0) (.slice none 0 0)
        generalize (World.setCell (World.setCell (World.setCell (World.setCell (World.setCell (World.setCell (World.setCell (World.setCell (World.setCell (World.setCell (World.setCell (World.setCell w4 ⟨g + 2, 0, none⟩ (.int .i64 0)) ⟨g + 2, 1, none⟩ (strV [])) ⟨g + 2, 2, none⟩ (strV [])) ⟨g + 2, 3, none⟩ (.int .i64 0)) ⟨g + 2, 4, none⟩ (.slice none 0 0)) ⟨g + 2, 5, none⟩ (.slice none 0 0)) ⟨g + 3, 0, none⟩ (.int .i64 0)) ⟨g + 3, 1, none⟩ (strV [])) ⟨g + 3, 2, none⟩ (strV [])) ⟨g + 3, 3, none⟩ (.int .i64 0)) ⟨g + 3, 4, none⟩ (.slice none 0 0)) ⟨g + 3, 5, none⟩ (.slice none 0 0)) = W3 at *
        clear u0 u1 u2 u3 u4 u5 v0 v1 v2 v3 v4 v5 f0 f1 f2 f3 f4 f5 h0 h1 h2 h3 h4 h5
        have u0 : W3.cell? ⟨g + 2, 0, none⟩ = some (.int .i64 0) := z2.cell 0 rfl; have u1 : W3.cell? ⟨g + 2, 1, none⟩ = some (strV []) := z2.cell 1 rfl; have u2 : W3.cell? ⟨g + 2, 2, none⟩ = some (strV []) := z2.cell 2 rfl; have u3 : W3.cell? ⟨g + 2, 3, none⟩ = some (.int .i64 0) := z2.cell 3 rfl; have u4 : W3.cell? ⟨g + 2, 4, none⟩ = some (.slice none 0 0) := z2.cell 4 rfl; have u5 : W3.cell? ⟨g + 2, 5, none⟩ = some (.slice none 0 0) := z2.cell 5 rfl
        have v0 : W3.cell? ⟨g + 3, 0, none⟩ = some (.int .i64 0) := z3.cell 0 rfl; have v1 : W3.cell? ⟨g + 3, 1, none⟩ = some (strV []) := z3.cell 1 rfl; have v2 : W3.cell? ⟨g + 3, 2, none⟩ = some (strV []) := z3.cell 2 rfl; have v3 : W3.cell? ⟨g + 3, 3, none⟩ = some (.int .i64 0) := z3.cell 3 rfl; have v4 : W3.cell? ⟨g + 3, 4, none⟩ = some (.slice none 0 0) := z3.cell 4 rfl; have v5 : W3.cell? ⟨g + 3, 5, none⟩ = some (.slice none 0 0) := z3.cell 5 rfl
        try rw [Exit.noGoto_ret]
        refine bodyPost_ret (v := .tuple #[.agg #[.int .i64 0, strV [], strV [], .int .i64 0, .slice none 0 0, .slice none 0 0], .agg #[.int .i64 0, strV [], strV [], .int .i64 0, .slice none 0 0, .slice none 0 0], .bool false]) (by simp [results, Try.results74, go_sem, u0, v0, u1, v1, u2, v2, u3, v3, u4, v4, u5, v5]) rfl ?_
        have hW : Below w.heap.size w W3 := by rw [HGS.out]; exact hb6
        exact ppEndH_none HO.out HBB.out HN.out hW
    ·
      have u0 : w4.cell? ⟨g + 2, 0, none⟩ = some (.int .i64 0) := HB2w4.out.cell 0 rfl; have u1 : w4.cell? ⟨g + 2, 1, none⟩ = some (strV []) := HB2w4.out.cell 1 rfl; have u2 : w4.cell? ⟨g + 2, 2, none⟩ = some (strV []) := HB2w4.out.cell 2 rfl; have u3 : w4.cell? ⟨g + 2, 3, none⟩ = some (.int .i64 0) := HB2w4.out.cell 3 rfl; have u4 : w4.cell? ⟨g + 2, 4, none⟩ = some (.slice none 0 0) := HB2w4.out.cell 4 rfl; have u5 : w4.cell? ⟨g + 2, 5, none⟩ = some (.slice none 0 0) := HB2w4.out.cell 5 rfl
      have v0 : w4.cell? ⟨g + 3, 0, none⟩ = some (.int .i64 0) := HB3w4.out.cell 0 rfl; have v1 : w4.cell? ⟨g + 3, 1, none⟩ = some (strV []) := HB3w4.out.cell 1 rfl; have v2 : w4.cell? ⟨g + 3, 2, none⟩ = some (strV []) := HB3w4.out.cell 2 rfl; have v3 : w4.cell? ⟨g + 3, 3, none⟩ = some (.int .i64 0) := HB3w4.out.cell 3 rfl; have v4 : w4.cell? ⟨g + 3, 4, none⟩ = some (.slice none 0 0) := HB3w4.out.cell 4 rfl; have v5 : w4.cell? ⟨g + 3, 5, none⟩ = some (.slice none 0 0) := HB3w4.out.cell 5 rfl
      have f0 : w4.frozen? ⟨g + 2, 0, none⟩ = false := HB2w4.out.frozen 0; have f1 : w4.frozen? ⟨g + 2, 1, none⟩ = false := HB2w4.out.frozen 1; have f2 : w4.frozen? ⟨g + 2, 2, none⟩ = false := HB2w4.out.frozen 2; have f3 : w4.frozen? ⟨g + 2, 3, none⟩ = false := HB2w4.out.frozen 3; have f4 : w4.frozen? ⟨g + 2, 4, none⟩ = false := HB2w4.out.frozen 4; have f5 : w4.frozen? ⟨g + 2, 5, none⟩ = false := HB2w4.out.frozen 5
      have h0 : w4.frozen? ⟨g + 3, 0, none⟩ = false := HB3w4.out.frozen 0; have h1 : w4.frozen? ⟨g + 3, 1, none⟩ = false := HB3w4.out.frozen 1; have h2 : w4.frozen? ⟨g + 3, 2, none⟩ = false := HB3w4.out.frozen 2; have h3 : w4.frozen? ⟨g + 3, 3, none⟩ = false := HB3w4.out.frozen 3; have h4 : w4.frozen? ⟨g + 3, 4, none⟩ = false := HB3w4.out.frozen 4; have h5 : w4.frozen? ⟨g + 3, 5, none⟩ = false := HB3w4.out.frozen 5
      go_wp2_with fail
      obtain ⟨z2, z3⟩ := two_set6 HB2w4.out HB3w4.out (by omega) (.int .i64 0) (strV []) (strV []) (.int .i64 0) (.slice none 0 0) (.slice none 0 0) (.int .i64 0) (strV []) (strV []) (.int .i64 0) (.slice none 0 0) (.slice none 0 0)
      have hb6 := below_set12 (b := g + 2) (b' := g + 3) HWw4.out (by omega) (by omega) (.int .i64 0) (strV []) (strV []) (.int .i64 0) (.slice none 0 0) (.slice none 0 0) (.int .i64 0) (strV []) (strV []) (.int .i64 0) (.slice none 0 0) (.slice none 0 0)
      generalize (World.setCell (World.setCell (World.setCell (World.setCell (World.setCell (World.setCell (World.setCell (World.setCell (World.setCell (World.setCell (World.setCell (World.setCell w4 ⟨g + 2, 0, none⟩ (.int .i64 0)) ⟨g + 2, 1, none⟩ (strV [])) ⟨g + 2, 2, none⟩ (strV [])) ⟨g + 2, 3, none⟩ (.int .i64 0)) ⟨g + 2, 4, none⟩ (.slice none 0 0)) ⟨g + 2, 5, none⟩ (.slice none 0 0)) ⟨g + 3, 0, none⟩ (.int .i64 0)) ⟨g + 3, 1, none⟩ (strV [])) ⟨g + 3, 2, none⟩ (strV [])) ⟨g + 3, 3, none⟩ (.int .i64 0)) ⟨g + 3, 4, none⟩ (.slice none 0 0)) ⟨g + 3, 5, none⟩ (.slice none 0 0)) = W3 at *
      clear u0 u1 u2 u3 u4 u5 v0 v1 v2 v3 v4 v5 f0 f1 f2 f3 f4 f5 h0 h1 h2 h3 h4 h5
      have u0 : W3.cell? ⟨g + 2, 0, none⟩ = some (.int .i64 0) := z2.cell 0 rfl; have u1 : W3.cell? ⟨g + 2, 1, none⟩ = some (strV []) := z2.cell 1 rfl; have u2 : W3.cell? ⟨g + 2, 2, none⟩ = some (strV []) := z2.cell 2 rfl; have u3 : W3.cell? ⟨g + 2, 3, none⟩ = some (.int .i64 0) := z2.cell 3 rfl; have u4 : W3.cell? ⟨g + 2, 4, none⟩ = some (.slice none 0 0) := z2.cell 4 rfl; have u5 : W3.cell? ⟨g + 2, 5, none⟩ = some (.slice none 0 0) := z2.cell 5 rfl
      have v0 : W3.cell? ⟨g + 3, 0, none⟩ = some (.int .i64 0) := z3.cell 0 rfl; have v1 : W3.cell? ⟨g + 3, 1, none⟩ = some (strV []) := z3.cell 1 rfl; have v2 : W3.cell? ⟨g + 3, 2, none⟩ = some (strV []) := z3.cell 2 rfl; have v3 : W3.cell? ⟨g + 3, 3, none⟩ = some (.int .i64 0) := z3.cell 3 rfl; have v4 : W3.cell? ⟨g + 3, 4, none⟩ = some (.slice none 0 0) := z3.cell 4 rfl; have v5 : W3.cell? ⟨g + 3, 5, none⟩ = some (.slice none 0 0) := z3.cell 5 rfl
      try rw [Exit.noGoto_ret]
      refine bodyPost_ret (v := .tuple #[.agg #[.int .i64 0, strV [], strV [], .int .i64 0, .slice none 0 0, .slice none 0 0], .agg #[.int .i64 0, strV [], strV [], .int .i64 0, .slice none 0 0, .slice none 0 0], .bool false]) (by simp [results, Try.results74, go_sem, u0, v0, u1, v1, u2, v2, u3, v3, u4, v4, u5, v5]) rfl ?_
      have hW : Below w.heap.size w W3 := by rw [HGS.out]; exact hb6
      exact ppEndH_none HO.out HBB.out HN.out hW
  case rest =>
  obtain ⟨x1, y1, A1, n1, c1, B1, m1, d1, A2, n2, c2, B2, m2, d2, hs, bt, bu, b2, b3, v1, v2, hl, gl, hw⟩ := hcut
  have HS := Lib.hid hs; have CT := Lib.hid bt; have CU := Lib.hid bu; have C2 := Lib.hid b2; have C3 := Lib.hid b3; have V1 := Lib.hid v1; have V2 := Lib.hid v2; have HL2 := Lib.hid hl; have GL2 := Lib.hid gl; have HW := Lib.hid hw
  clear hs bt bu b2 b3 v1 v2 hl gl hw
  clear HBTwc HBUwc HVwc GVwc HWwc HGwc HB0wc HB1wc HB2wc HB3wc
  skip
  have PX : Hid (∀ W, Below wc.heap.size wc W → Calls Try.prog 88 #[prV x1.k x1.nm x1.to x1.h.pos A1 n1 c1 B1 m1 d1] W (fun e u' => ∃ P p1 Q q1, e = .returned (prV x1.k x1.nm x1.to x1.h.pos P n1 p1 Q m1 q1) ∧ PV u' u'.heap.size P n1 p1 Q m1 q1 x1 ∧ (Hi W.heap.size P ∧ Hi W.heap.size Q) ∧ Below W.heap.size W u')) := Lib.hid (fun W hb => OwnC A1 n1 c1 B1 m1 d1 wc.heap.size x1 W hb.size HL2.out.1 HL2.out.2 (V1.out.below hb))
  have PY : Hid (∀ W, Below wc.heap.size wc W → Calls Try.prog 88 #[prV y1.k y1.nm y1.to y1.h.pos A2 n2 c2 B2 m2 d2] W (fun e u' => ∃ P p1 Q q1, e = .returned (prV y1.k y1.nm y1.to y1.h.pos P n2 p1 Q m2 q1) ∧ PV u' u'.heap.size P n2 p1 Q m2 q1 y1 ∧ (Hi W.heap.size P ∧ Hi W.heap.size Q) ∧ Below W.heap.size W u')) := Lib.hid (fun W hb => OwnC A2 n2 c2 B2 m2 d2 wc.heap.size y1 W hb.size GL2.out.1 GL2.out.2 (V2.out.below hb))
  have HSB : Hid (∀ W, Blk W T 54 #[.int .i64 x1.k, strV x1.nm, strV x1.to, .int .i64 x1.h.pos, .slice A1 n1 c1, .slice B1 m1 d1] → Blk W U 54 #[.int .i64 y1.k, strV y1.nm, strV y1.to, .int .i64 y1.h.pos, .slice A2 n2 c2, .slice B2 m2 d2] → W.cell? ⟨T, 0, none⟩ = some (.int .i64 x1.k) ∧ W.cell? ⟨T, 1, none⟩ = some (strV x1.nm) ∧ W.cell? ⟨T, 2, none⟩ = some (strV x1.to) ∧ W.cell? ⟨T, 3, none⟩ = some (.int .i64 x1.h.pos) ∧ W.cell? ⟨T, 4, none⟩ = some (.slice A1 n1 c1) ∧ W.cell? ⟨T, 5, none⟩ = some (.slice B1 m1 d1) ∧ W.cell? ⟨U, 0, none⟩ = some (.int .i64 y1.k) ∧ W.cell? ⟨U, 1, none⟩ = some (strV y1.nm) ∧ W.cell? ⟨U, 2, none⟩ = some (strV y1.to) ∧ W.cell? ⟨U, 3, none⟩ = some (.int .i64 y1.h.pos) ∧ W.cell? ⟨U, 4, none⟩ = some (.slice A2 n2 c2) ∧ W.cell? ⟨U, 5, none⟩ = some (.slice B2 m2 d2)) := Lib.hid (fun W b b' => by
    exact ⟨b.cell 0 rfl, b.cell 1 rfl, b.cell 2 rfl, b.cell 3 rfl, b.cell 4 rfl, b.cell 5 rfl, b'.cell 0 rfl, b'.cell 1 rfl, b'.cell 2 rfl, b'.cell 3 rfl, b'.cell 4 rfl, b'.cell 5 rfl⟩)
  have HC : Hid (∀ W, Below wc.heap.size wc W → W.cell? ⟨T, 0, none⟩ = some (.int .i64 x1.k) ∧ W.cell? ⟨T, 1, none⟩ = some (strV x1.nm) ∧ W.cell? ⟨T, 2, none⟩ = some (strV x1.to) ∧ W.cell? ⟨T, 3, none⟩ = some (.int .i64 x1.h.pos) ∧ W.cell? ⟨T, 4, none⟩ = some (.slice A1 n1 c1) ∧ W.cell? ⟨T, 5, none⟩ = some (.slice B1 m1 d1) ∧ W.cell? ⟨U, 0, none⟩ = some (.int .i64 y1.k) ∧ W.cell? ⟨U, 1, none⟩ = some (strV y1.nm) ∧ W.cell? ⟨U, 2, none⟩ = some (strV y1.to) ∧ W.cell? ⟨U, 3, none⟩ = some (.int .i64 y1.h.pos) ∧ W.cell? ⟨U, 4, none⟩ = some (.slice A2 n2 c2) ∧ W.cell? ⟨U, 5, none⟩ = some (.slice B2 m2 d2)) := Lib.hid (fun W hb => HSB.out W (CT.out.below hb CT.out.lt) (CU.out.below hb CU.out.lt))
  have HNG := Lib.hid (show (T ≠ g + 2 ∧ T ≠ g + 3) ∧ (U ≠ g + 2 ∧ U ≠ g + 3) from by have := HgT.out; omega)
  have HKD := Lib.hid (HC.out wc.drew (below_drewN (Below.refl _ _) 1))
  obtain ⟨x0, xx1, x2, x3, x4, x5, y0, yy1, y2, y3, y4, y5⟩ := HC.out wc (Below.refl _ _)
  go_wp2_with fail
  go_region_held3 (fun W => W.cell? ⟨T, 0, none⟩ = some (.int .i64 x1.k) ∧ W.cell? ⟨T, 1, none⟩ = some (strV x1.nm) ∧ W.cell? ⟨T, 2, none⟩ = some (strV x1.to) ∧ W.cell? ⟨T, 3, none⟩ = some (.int .i64 x1.h.pos) ∧ W.cell? ⟨T, 4, none⟩ = some (.slice A1 n1 c1) ∧ W.cell? ⟨T, 5, none⟩ = some (.slice B1 m1 d1) ∧ W.cell? ⟨U, 0, none⟩ = some (.int .i64 y1.k) ∧ W.cell? ⟨U, 1, none⟩ = some (strV y1.nm) ∧ W.cell? ⟨U, 2, none⟩ = some (strV y1.to) ∧ W.cell? ⟨U, 3, none⟩ = some (.int .i64 y1.h.pos) ∧ W.cell? ⟨U, 4, none⟩ = some (.slice A2 n2 c2) ∧ W.cell? ⟨U, 5, none⟩ = some (.slice B2 m2 d2))
    (first | (with_reducible exact HKD.out) | (with_reducible exact hS5) | (with_reducible exact hS6) | (with_reducible exact HK2.out _ _ _ _ _ _) | (with_reducible exact HK3.out _ _ _ _ _ _ _ _ _ _ _ _))
    (first
      | (go_at_call 88; (with_reducible refine (PX.out wc.drew (below_drewN (Below.refl _ _) 1)).mono ?_); rintro e w5 ⟨P5, p5, Q5, q5, rfl, hv, hh, hb⟩; have HH5 := Lib.hid hh; clear hh; have hbu := (below_drewN (Below.refl wc.heap.size wc) 1).trans hb; have hS5 := HC.out w5 hbu; have HU5 := Lib.hid hbu; have HV5 := Lib.hid hv; clear hb hbu hv)
      | (go_at_call 88; (with_reducible refine (PY.out w5 HU5.out).mono ?_); rintro e w6 ⟨P6, p6, Q6, q6, rfl, hv, hh, hb⟩; have HH6 := Lib.hid hh; clear hh; have hbu := HU5.out.trans (hb.mono HU5.out.size); have hS6 := HC.out w6 hbu; have HU6 := Lib.hid hbu; have HV6 := Lib.hid hv; have HB6 := Lib.hid hb;
          have t6 := CT.out.below hbu CT.out.lt; have u6 := CU.out.below hbu CU.out.lt;
          have HK2 := Lib.hid (fun v0 v1 v2 v3 v4 v5 => HSB.out _ (blk_ne6 t6 HNG.out.1.1 v0 v1 v2 v3 v4 v5) (blk_ne6 u6 HNG.out.2.1 v0 v1 v2 v3 v4 v5));
          have HK3 := Lib.hid (fun v0 v1 v2 v3 v4 v5 u0 u1 u2 u3 u4 u5 => HSB.out _ (blk_ne6 (blk_ne6 t6 HNG.out.1.1 v0 v1 v2 v3 v4 v5) HNG.out.1.2 u0 u1 u2 u3 u4 u5) (blk_ne6 (blk_ne6 u6 HNG.out.2.1 v0 v1 v2 v3 v4 v5) HNG.out.2.2 u0 u1 u2 u3 u4 u5));
          clear t6 u6; have b2 := C2.out.below hbu C2.out.lt; have b3 := C3.out.below hbu C3.out.lt;
          have u0 : w6.cell? ⟨g + 2, 0, none⟩ = some (.int .i64 0) := b2.cell 0 rfl; have u1 : w6.cell? ⟨g + 2, 1, none⟩ = some (strV []) := b2.cell 1 rfl; have u2 : w6.cell? ⟨g + 2, 2, none⟩ = some (strV []) := b2.cell 2 rfl; have u3 : w6.cell? ⟨g + 2, 3, none⟩ = some (.int .i64 0) := b2.cell 3 rfl; have u4 : w6.cell? ⟨g + 2, 4, none⟩ = some (.slice none 0 0) := b2.cell 4 rfl; have u5 : w6.cell? ⟨g + 2, 5, none⟩ = some (.slice none 0 0) := b2.cell 5 rfl;
          have v0 : w6.cell? ⟨g + 3, 0, none⟩ = some (.int .i64 0) := b3.cell 0 rfl; have v1 : w6.cell? ⟨g + 3, 1, none⟩ = some (strV []) := b3.cell 1 rfl; have v2 : w6.cell? ⟨g + 3, 2, none⟩ = some (strV []) := b3.cell 2 rfl; have v3 : w6.cell? ⟨g + 3, 3, none⟩ = some (.int .i64 0) := b3.cell 3 rfl; have v4 : w6.cell? ⟨g + 3, 4, none⟩ = some (.slice none 0 0) := b3.cell 4 rfl; have v5 : w6.cell? ⟨g + 3, 5, none⟩ = some (.slice none 0 0) := b3.cell 5 rfl;
          have f0 : w6.frozen? ⟨g + 2, 0, none⟩ = false := b2.frozen 0; have f1 : w6.frozen? ⟨g + 2, 1, none⟩ = false := b2.frozen 1; have f2 : w6.frozen? ⟨g + 2, 2, none⟩ = false := b2.frozen 2; have f3 : w6.frozen? ⟨g + 2, 3, none⟩ = false := b2.frozen 3; have f4 : w6.frozen? ⟨g + 2, 4, none⟩ = false := b2.frozen 4; have f5 : w6.frozen? ⟨g + 2, 5, none⟩ = false := b2.frozen 5; have h0 : w6.frozen? ⟨g + 3, 0, none⟩ = false := b3.frozen 0; have h1 : w6.frozen? ⟨g + 3, 1, none⟩ = false := b3.frozen 1; have h2 : w6.frozen? ⟨g + 3, 2, none⟩ = false := b3.frozen 2; have h3 : w6.frozen? ⟨g + 3, 3, none⟩ = false := b3.frozen 3; have h4 : w6.frozen? ⟨g + 3, 4, none⟩ = false := b3.frozen 4; have h5 : w6.frozen? ⟨g + 3, 5, none⟩ = false := b3.frozen 5;
          have Z2 := Lib.hid b2; have Z3 := Lib.hid b3; clear hb hbu hv b2 b3))
  go_wp2_with fail
  have l3 := C3.out.lt
  have l5 : wc.heap.size ≤ w5.heap.size := HU5.out.size
  have i5 := HH5.out; have i6 := HH6.out
  have i5a : Hi wc.heap.size P5 := i5.1; have i5b : Hi wc.heap.size Q5 := i5.2
  have i6a := i6.1.mono l5; have i6b := i6.2.mono l5
  have pv5 := (((HV5.out.below HB6.out).up HB6.out.size).hi6 (b := g + 2) i5a i5b (by omega) (.int .i64 x1.k) (strV x1.nm) (strV x1.to) (.int .i64 x1.h.pos) (.slice P5 n1 p5) (.slice Q5 m1 q5)).hi6 (b := g + 3) i5a i5b (by omega) (.int .i64 y1.k) (strV y1.nm) (strV y1.to) (.int .i64 y1.h.pos) (.slice P6 n2 p6) (.slice Q6 m2 q6)
  have pv6 := (HV6.out.hi6 (b := g + 2) i6a i6b (by omega) (.int .i64 x1.k) (strV x1.nm) (strV x1.to) (.int .i64 x1.h.pos) (.slice P5 n1 p5) (.slice Q5 m1 q5)).hi6 (b := g + 3) i6a i6b (by omega) (.int .i64 y1.k) (strV y1.nm) (strV y1.to) (.int .i64 y1.h.pos) (.slice P6 n2 p6) (.slice Q6 m2 q6)
  obtain ⟨z2, z3⟩ := two_set6 Z2.out Z3.out (by omega) (.int .i64 x1.k) (strV x1.nm) (strV x1.to) (.int .i64 x1.h.pos) (.slice P5 n1 p5) (.slice Q5 m1 q5) (.int .i64 y1.k) (strV y1.nm) (strV y1.to) (.int .i64 y1.h.pos) (.slice P6 n2 p6) (.slice Q6 m2 q6)
  have hb6 := below_set12 (b := g + 2) (b' := g + 3) (HW.out.trans (HU6.out.mono (by have := HW.out.size; omega))) (by omega) (by omega) (.int .i64 x1.k) (strV x1.nm) (strV x1.to) (.int .i64 x1.h.pos) (.slice P5 n1 p5) (.slice Q5 m1 q5) (.int .i64 y1.k) (strV y1.nm) (strV y1.to) (.int .i64 y1.h.pos) (.slice P6 n2 p6) (.slice Q6 m2 q6)
  have hsz := (below_set12 (b := g + 2) (b' := g + 3) (Below.refl 0 w6) (by omega) (by omega) (.int .i64 x1.k) (strV x1.nm) (strV x1.to) (.int .i64 x1.h.pos) (.slice P5 n1 p5) (.slice Q5 m1 q5) (.int .i64 y1.k) (strV y1.nm) (strV y1.to) (.int .i64 y1.h.pos) (.slice P6 n2 p6) (.slice Q6 m2 q6)).size
  generalize (World.setCell (World.setCell (World.setCell (World.setCell (World.setCell (World.setCell (World.setCell (World.setCell (World.setCell (World.setCell (World.setCell (World.setCell w6 ⟨g + 2, 0, none⟩ (.int .i64 x1.k)) ⟨g + 2, 1, none⟩ (strV x1.nm)) ⟨g + 2, 2, none⟩ (strV x1.to)) ⟨g + 2, 3, none⟩ (.int .i64 x1.h.pos)) ⟨g + 2, 4, none⟩ (.slice P5 n1 p5)) ⟨g + 2, 5, none⟩ (.slice Q5 m1 q5)) ⟨g + 3, 0, none⟩ (.int .i64 y1.k)) ⟨g + 3, 1, none⟩ (strV y1.nm)) ⟨g + 3, 2, none⟩ (strV y1.to)) ⟨g + 3, 3, none⟩ (.int .i64 y1.h.pos)) ⟨g + 3, 4, none⟩ (.slice P6 n2 p6)) ⟨g + 3, 5, none⟩ (.slice Q6 m2 q6)) = W3 at *
  clear u0 u1 u2 u3 u4 u5 v0 v1 v2 v3 v4 v5 f0 f1 f2 f3 f4 f5 h0 h1 h2 h3 h4 h5
  have u0 : W3.cell? ⟨g + 2, 0, none⟩ = some (.int .i64 x1.k) := z2.cell 0 rfl; have u1 : W3.cell? ⟨g + 2, 1, none⟩ = some (strV x1.nm) := z2.cell 1 rfl; have u2 : W3.cell? ⟨g + 2, 2, none⟩ = some (strV x1.to) := z2.cell 2 rfl; have u3 : W3.cell? ⟨g + 2, 3, none⟩ = some (.int .i64 x1.h.pos) := z2.cell 3 rfl; have u4 : W3.cell? ⟨g + 2, 4, none⟩ = some (.slice P5 n1 p5) := z2.cell 4 rfl; have u5 : W3.cell? ⟨g + 2, 5, none⟩ = some (.slice Q5 m1 q5) := z2.cell 5 rfl
  have v0 : W3.cell? ⟨g + 3, 0, none⟩ = some (.int .i64 y1.k) := z3.cell 0 rfl; have v1 : W3.cell? ⟨g + 3, 1, none⟩ = some (strV y1.nm) := z3.cell 1 rfl; have v2 : W3.cell? ⟨g + 3, 2, none⟩ = some (strV y1.to) := z3.cell 2 rfl; have v3 : W3.cell? ⟨g + 3, 3, none⟩ = some (.int .i64 y1.h.pos) := z3.cell 3 rfl; have v4 : W3.cell? ⟨g + 3, 4, none⟩ = some (.slice P6 n2 p6) := z3.cell 4 rfl; have v5 : W3.cell? ⟨g + 3, 5, none⟩ = some (.slice Q6 m2 q6) := z3.cell 5 rfl
  try rw [Exit.noGoto_ret]
  refine bodyPost_ret (v := .tuple #[.agg #[.int .i64 x1.k, strV x1.nm, strV x1.to, .int .i64 x1.h.pos, .slice P5 n1 p5, .slice Q5 m1 q5], .agg #[.int .i64 y1.k, strV y1.nm, strV y1.to, .int .i64 y1.h.pos, .slice P6 n2 p6, .slice Q6 m2 q6], .bool true]) (by simp [results, Try.results74, go_sem, u0, v0, u1, v1, u2, v2, u3, v3, u4, v4, u5, v5]) rfl ?_
  have hg : w.heap.size ≤ wc.heap.size := by rw [HGS.out]; omega
  exact ppEndH_some HO.out HBB.out HS.out (pv5.up hsz) (pv6.up hsz) HL2.out GL2.out ⟨i5a.mono hg, i5b.mono hg, i6a.mono hg, i6b.mono hg⟩ (by rw [HGS.out]; exact hb6)

end Pr
end Go.Proofs.Ytdnkinajbebkoaa

set_option maxRecDepth 100000
namespace Go.Proofs.Ytdnkinajbebkoaa
open Go.RowKit
set_option linter.unusedVariables false
set_option linter.unusedSimpArgs false
namespace Fl
open Tx Df Sq Hk Tr Pr

/-- How a call ends that makes a list of changes. -/
def LPEnd (w : World) (l : List Ch) (e : Ending) (w' : World) : Prop := ∃ A c, e = .returned (.slice A l.length c) ∧ l.length ≤ c ∧ RdP w' (· < w'.heap.size) A l ∧ Below w.heap.size w w'
/-- The cells of one change in a block of their own. -/
theorem one_srcP {W : World} {b : Nat} {A B : Option Addr} {n c m d : Nat} {x : Ch} (h : Blk W b 54 #[.int .i64 x.k, strV x.nm, strV x.to, .int .i64 x.h.pos, .slice A n c, .slice B m d]) :
    ∀ (j : Nat) u, [Value.int .i64 x.k, strV x.nm, strV x.to, .int .i64 x.h.pos, .slice A n c, .slice B m d][j]? = some u → W.cell? ((⟨b, 0, none⟩ : Addr).add j) = some u := fun j u hu => by
  rcases j with _ | _ | _ | _ | _ | _ | j
  · rw [add_zero']; exact h.cell 0 hu
  · exact h.cell 1 hu
  · exact h.cell 2 hu
  · exact h.cell 3 hu
  · exact h.cell 4 hu
  · exact h.cell 5 hu
  · simp at hu

end Fl
end Go.Proofs.Ytdnkinajbebkoaa

set_option maxRecDepth 100000
namespace Go.Proofs.Ytdnkinajbebkoaa
open Go.RowKit
set_option linter.unusedVariables false
set_option linter.unusedSimpArgs false
namespace Fl
open Tx Df Sq Hk Tr Pr

/-- How a copy of lines ends: in memory of its own. -/
def CopyLEnd (w : World) (n : Nat) (ls : List (List UInt8)) (e : Ending) (w' : World) : Prop :=
  ∃ D d, e = .returned (.slice D n d) ∧ n ≤ d ∧ RdS w' w'.heap.size D ls ∧ Hi w.heap.size D ∧ w.grownBy w' none

theorem ownLines (A : Option Addr) (n c B : Nat) (ls : List (List UInt8)) (w : World) (hn : ls.length = n) (hle : n ≤ 100000) (hB : B ≤ w.heap.size) (hR : RdS w B A ls) :
    Calls Try.prog 70 #[.slice A n c] w (CopyLEnd w n ls) := by
  obtain ⟨j0, hj, hy0, hy1, hy2⟩ := info_parts info_str
  have HR := Lib.hid hR; have HN := Lib.hid hn
  clear hR hn
  go_enter Try.func70, Try.ntmps70
  go_wp2_with (at_builtin; refine wpList_nil' rfl (.const (.slice none 0 0)) (.tmp 3) 50 rfl 9 j0 (.string ⟨#[]⟩) 16 Try.underlying50 hj hy0 hy1 hy2 rfl rfl B A n c (ls.map strV) rfl (by rw [List.length_map]; exact HN.out) HR.out (strs_one _) (by unfold maxLen; omega) (by omega) ?_; intro D1 d1 w1 hA hg; have HA := Lib.hid hA; have HG := Lib.hid hg; clear hA hg)
  go_ret
  obtain ⟨A', c', e, hc, hr⟩ := rd_of_own HA.out
  injection e with e1 e2 e3
  subst e1 e3
  exact ⟨D1, d1, rfl, hc, hr, hi_own HA.out, HG.out⟩

end Fl
end Go.Proofs.Ytdnkinajbebkoaa

set_option maxRecDepth 100000
namespace Go.Proofs.Ytdnkinajbebkoaa
open Go.RowKit
set_option linter.unusedVariables false
set_option linter.unusedSimpArgs false
namespace Pn
open Tx Df Sq Hk Tr Pr Fl
attribute [local go_sem] eq_id

/-- A patch in a block of its own. -/
abbrev nmC (p : Nm) (D : Option Addr) (dn dc : Nat) (A : Option Addr) (n c : Nat) : Array Value := #[.int .i64 p.id.1, .int .i64 p.id.2, .slice D dn dc, strV p.txt, .slice A n c]

end Pn
end Go.Proofs.Ytdnkinajbebkoaa

set_option maxRecDepth 100000
namespace Go.Proofs.Ytdnkinajbebkoaa
open Go.RowKit
set_option linter.unusedVariables false
set_option linter.unusedSimpArgs false
namespace Tg
open Tx Df Sq Hk Tr Pr Fl Pn

/-- Where an id stands first; -1: nowhere. -/
def findI (l : List Id_) (x : Id_) : Int := match l.findIdx? (fun y => decide (x = y)) with
  | some k => k
  | none => -1
theorem findI_at {l : List Id_} {x : Id_} {k : Nat} (hx : l[k]? = some x) (hb : ∀ (j : Nat) (y : Id_), l[j]? = some y → j < k → x ≠ y) : findI l x = (k : Int) := by
  have key : l.findIdx? (fun y => decide (x = y)) = some k := by
    rw [List.findIdx?_eq_some_iff_getElem]
    obtain ⟨hk, e⟩ := List.getElem?_eq_some_iff.1 hx
    refine ⟨hk, by rw [e]; exact decide_eq_true rfl, fun j hj => ?_⟩
    have := hb j _ (List.getElem?_eq_getElem (by omega)) hj
    simpa using this
  unfold findI
  rw [key]
theorem findI_no {l : List Id_} {x : Id_} (h : ∀ (j : Nat) (y : Id_), l[j]? = some y → x ≠ y) : findI l x = -1 := by
  have key : l.findIdx? (fun y => decide (x = y)) = none := by
    rw [List.findIdx?_eq_none_iff]
    intro y hy
    obtain ⟨j, hj⟩ := List.getElem?_of_mem hy
    exact decide_eq_false (h j y hj)
  unfold findI
  rw [key]
theorem findI_mem {l : List Id_} {x : Id_} : 0 ≤ findI l x ↔ x ∈ l := by
  unfold findI
  cases h : l.findIdx? (fun y => decide (x = y)) with
  | none =>
    rw [List.findIdx?_eq_none_iff] at h
    refine ⟨fun h => absurd h (by decide), fun hx => ?_⟩
    have := h x hx
    simp at this
  | some k =>
    rw [List.findIdx?_eq_some_iff_getElem] at h
    obtain ⟨hk, e, _⟩ := h
    have e := of_decide_eq_true e
    exact ⟨fun _ => e ▸ List.getElem_mem hk, fun _ => by dsimp only; omega⟩

attribute [local go_sem] eq_id
set_option maxHeartbeats 1000000 in
theorem IndexI (x : Id_) (A : Option Addr) (n c B : Nat) (l : List Id_) (w : World) (hn : l.length = n) (hln : n ≤ 1000000) (hB : B ≤ w.heap.size) (hR : RdI w B A l) :
    Calls Try.prog 63 #[.slice A n c, .agg #[.int .i64 x.1, .int .i64 x.2]] w (IntEnd w (findI l x)) := by
  obtain ⟨x, u⟩ := x
  have HN := Lib.hid hn; have HR := Lib.hid (Rd.up hR hB : RdI w w.heap.size A l)
  clear hn hR hB
  obtain ⟨iv, hiv⟩ : ∃ iv, findI l (x, u) = iv := ⟨_, rfl⟩
  rw [hiv]
  have HIV := Lib.hid hiv; clear hiv
  have b0 := Blk.new w 42 #[.int .i64 x, .int .i64 u]
  have hba : Below w.heap.size w (w.alloc (.cells #[.int .i64 x, .int .i64 u] 42)) := (Below.refl _ _).alloc (Nat.le_refl _) _
  have HB0 := Lib.hid b0; have HBA := Lib.hid hba
  clear b0 hba
  dsimp only
  go_enter Try.func63, Try.ntmps63
  go_wp2_with fail
  obtain ⟨w0, hw0⟩ : ∃ W, w.alloc (.cells #[.int .i64 x, .int .i64 u] 42) = W := ⟨_, rfl⟩
  obtain ⟨z, hz⟩ : ∃ z, w.heap.size = z := ⟨_, rfl⟩
  rw [hw0] at HB0 HBA ⊢
  rw [hz] at HB0 ⊢
  have HZ := Lib.hid hz
  clear hw0 hz
  have HR0 := Lib.hid (RdI.mv HR.out HBA.out)
  go_loopw [8] (fun i wr => ∃ k : Nat, k ≤ n ∧ i = .int .i64 (k : Int) ∧ (∀ (j : Nat) (y : Id_), l[j]? = some y → j < k → (x, u) ≠ y) ∧ Below w0.heap.size w0 wr) (fun i _ => n - (intOf i).toNat)
  case atStart => exact ⟨0, Nat.zero_le _, rfl, fun j _ _ hj => by omega, Below.refl _ _⟩
  case round =>
    obtain ⟨k, hk, rfl, hall, hbw⟩ := hrel
    have HA := Lib.hid hall; have HBW := Lib.hid hbw; clear hall hbw
    have HBE := Lib.hid (below_mv HBA.out HBW.out)
    by_cases hlt : k < n
    · have hki : (k : Int) < (n : Int) := by omega
      obtain ⟨a, y, rfl, hS, hy, c0, c1⟩ := ((RdI.mv HR0.out HBW.out).elem (k := k) (by rw [HN.out]; exact hlt))
      obtain ⟨y, v⟩ := y
      have HX := Lib.hid hy
      have bz := HB0.out.below HBW.out HB0.out.lt
      have z0 := bz.cell 0 rfl; have z1 := bz.cell 1 rfl; have hzl := bz.lt
      clear hy hS bz
      dsimp only at c0 c1
      by_cases e1 : x = y
      · subst e1
        by_cases e2 : u = v
        · subst e2
          have HE : Hid (iv = (k : Int)) := Lib.hid (by rw [← HIV.out]; exact findI_at HX.out HA.out)
          go_wp2
          go_quiet (fail)
          go_wp2
          go_ret
          exact ⟨by rw [HE.out]; rfl, below_drewN HBE.out _⟩
        · have e3 : (u == v) = false := by rw [beq_eq_false_iff_ne]; exact e2
          go_wp2
          go_quiet (fail)
          go_wp2
          refine ⟨⟨k + 1, by omega, by go_num, fun j y hy hj => ?_, below_drewN HBW.out _⟩, by simp [intOf]; omega⟩
          by_cases e : j = k
          · subst e
            have h1 := HX.out
            rw [h1] at hy
            injection hy with hy
            subst hy
            intro e; injection e with _ e; exact e2 e
          · exact HA.out j y hy (by omega)
      · have e3 : (x == y) = false := by rw [beq_eq_false_iff_ne]; exact e1
        go_wp2
        go_quiet (fail)
        go_wp2
        refine ⟨⟨k + 1, by omega, by go_num, fun j y hy hj => ?_, below_drewN HBW.out _⟩, by simp [intOf]; omega⟩
        by_cases e : j = k
        · subst e
          have h1 := HX.out
          rw [h1] at hy
          injection hy with hy
          subst hy
          intro e; injection e with e _; exact e1 e
        · exact HA.out j y hy (by omega)
    · have HE : Hid (iv = -1) := Lib.hid (by
        rw [← HIV.out]
        exact findI_no fun j y hy => HA.out j y hy (by have := (List.getElem?_eq_some_iff.1 hy).1; have := HN.out; omega))
      go_wp2
      go_ret
      exact ⟨by rw [HE.out]; rfl, HBE.out⟩
theorem ContainsI (x : Id_) (A : Option Addr) (n c B : Nat) (l : List Id_) (w : World) (b : Bool) (hn : l.length = n) (hln : n ≤ 1000000) (hB : B ≤ w.heap.size) (hR : RdI w B A l) (hb : decide (x ∈ l) = b) :
    Calls Try.prog 49 #[.slice A n c, .agg #[.int .i64 x.1, .int .i64 x.2]] w (BoolEnd w b) := by
  have HN := Lib.hid hn; have HR := Lib.hid hR; have HB := Lib.hid hb
  clear hn hR hb
  go_enter Try.func49, Try.ntmps49
  have hba : Below w.heap.size w (w.alloc (.cells #[.int .i64 x.1, .int .i64 x.2] 42)) := (Below.refl _ _).alloc (Nat.le_refl _) _
  go_wp2_with fail
  refine (IndexI x A n c B l _ HN.out hln (Nat.le_trans hB hba.size) (Rd.below HR.out (hba.mono hB))).mono ?_
  rintro e w1 ⟨rfl, hb1⟩
  have HB1 := Lib.hid (below_mv hba hb1); clear hb1 hba
  obtain ⟨i, hi⟩ : ∃ i, findI l x = i := ⟨_, rfl⟩
  have HI : Hid (decide (0 ≤ i) = b) := Lib.hid (by rw [← HB.out, ← hi]; exact decide_eq_decide.2 findI_mem)
  rw [hi]
  clear hi
  go_wp2
  go_ret
  exact ⟨ret_bool (by rw [← HI.out]), HB1.out⟩

end Tg
end Go.Proofs.Ytdnkinajbebkoaa

set_option maxRecDepth 100000
namespace Go.Proofs.Ytdnkinajbebkoaa
open Go.RowKit
set_option linter.unusedVariables false
set_option linter.unusedSimpArgs false
namespace Tg
open Tx Df Sq Hk Tr Pr Fl Pn

/-- A row of ids of one's own that is new is read as ids. -/
theorem rdI_own_hi {W : World} {base : Nat} {v : Value} {l : List Id_} (h : OwnI W base v l) : ∃ A c, v = .slice A l.length c ∧ l.length ≤ c ∧ RdG W (fun b => base ≤ b ∧ b < W.heap.size) A (idsV l) := by
  obtain ⟨A, c, rfl, hc, hr⟩ := rdI_own h
  refine ⟨A, c, rfl, hc, ?_⟩
  rcases hr with h0 | ⟨a, rfl, hlt, hcell⟩
  · exact .inl h0
  · rcases h.2 with ⟨e, _⟩ | ⟨g, cap, cur, e, hbg, _⟩
    · injection e with e; cases e
    · injection e with e
      injection e with e
      subst e
      exact .inr ⟨_, rfl, ⟨hbg, hlt⟩, hcell⟩

/-- How with ends. -/
def WithEnd (w : World) (p : Nm) (dn : Nat) (A : Option Addr) (n c : Nat) (e : Ending) (w' : World) : Prop :=
  ∃ D dc, e = .returned (nmV p.id D dn dc p.txt A n c) ∧ dn ≤ dc ∧ RdG w' (Since w w') D (idsV p.deps) ∧ Below w.heap.size w w'

set_option maxHeartbeats 1000000 in
theorem With (D : Option Addr) (dn dc : Nat) (A : Option Addr) (n c : Nat) (p : Nm) (A' : Option Addr) (n' c' : Nat) (w : World) (hd : dn ≤ 100000) (hdl : p.deps.length = dn) (hr : RdI w w.heap.size D p.deps) :
    Calls Try.prog 48 #[nmV p.id D dn dc p.txt A n c, .slice A' n' c'] w (WithEnd w p dn A' n' c') := by
  have HR := Lib.hid hr; have HN := Lib.hid hdl
  clear hr hdl
  have b0 := (Blk.new w 83 #[.int .i64 p.id.1, .int .i64 p.id.2, .slice D dn dc, strV p.txt, .slice A n c]).alloc (.cells #[.int .i64 0, .int .i64 0, .slice none 0 0, .string ⟨#[]⟩, .slice none 0 0] 45)
  have b1 := Blk.new (w.alloc (.cells #[.int .i64 p.id.1, .int .i64 p.id.2, .slice D dn dc, strV p.txt, .slice A n c] 83)) 45 #[.int .i64 0, .int .i64 0, .slice none 0 0, .string ⟨#[]⟩, .slice none 0 0]
  have hba := two_box w (.cells #[.int .i64 p.id.1, .int .i64 p.id.2, .slice D dn dc, strV p.txt, .slice A n c] 83) (.cells #[.int .i64 0, .int .i64 0, .slice none 0 0, .string ⟨#[]⟩, .slice none 0 0] 45)
  simp only [World.size_alloc] at b1
  go_enter Try.func48, Try.ntmps48
  go_upto_region 1 with fail
  generalize ((w.alloc (.cells #[.int .i64 p.id.1, .int .i64 p.id.2, .slice D dn dc, strV p.txt, .slice A n c] 83)).alloc (.cells #[.int .i64 0, .int .i64 0, .slice none 0 0, .string ⟨#[]⟩, .slice none 0 0] 45)) = w1 at b0 b1 hba ⊢
  obtain ⟨z, hz⟩ : ∃ z, w.heap.size = z := ⟨_, rfl⟩
  have HR1 := Lib.hid (RdI.mv HR.out hba)
  rw [hz] at b0 b1 ⊢
  have HB0 := Lib.hid b0; have HB1 := Lib.hid b1; have HBA := Lib.hid hba; have HZ := Lib.hid hz
  have x2 := b0.cell 2 rfl; have x4 := b0.cell 4 rfl
  clear b0 b1 hba hz HR
  go_upto_region 2 with (at_builtin; refine wpList_ownI rfl (.const (.slice none 0 0)) (.tmp 6) rfl w1.heap.size dn dc (.slice none 0 0) D [] p.deps rfl rfl (ownI_nil _ _) HR1.out HN.out (by simp; omega) (Nat.le_refl _) ?_; intro v w2 ho hg; have HO := Lib.hid (show OwnI w2 w1.heap.size v p.deps from ho); have hb2 : Below w1.heap.size w1 w2 := (Below.refl _ _).grown hg (Nat.le_refl _) (fun k e => by cases e); have b02 := HB0.out.below hb2 HB0.out.lt; have b12 := HB1.out.below hb2 HB1.out.lt; have HB2 := Lib.hid hb2; have HB02 := Lib.hid b02; have HB12 := Lib.hid b12; obtain ⟨A2, c2, hv, hc2, hr2⟩ := rdI_own_hi HO.out; rw [HN.out] at hv hc2; subst hv; have HR2 := Lib.hid hr2; clear ho hg hb2 hr2 x2 x4; have x0 := b02.cell 0 rfl; have x1 := b02.cell 1 rfl; have x2 := b02.cell 2 rfl; have x3 := b02.cell 3 rfl; have x4 := b02.cell 4 rfl; have f2 := b02.frozen 2; have f4 := b02.frozen 4; have l0 := b02.lt; clear b02 b12)
  have b03 : Blk ((w2.setCell ⟨z, 2, none⟩ (.slice A2 dn c2)).setCell ⟨z, 4, none⟩ (.slice A' n' c')) z 83 #[.int .i64 p.id.1, .int .i64 p.id.2, .slice A2 dn c2, strV p.txt, .slice A' n' c'] := (HB02.out.set 2 _).set 4 _
  have b13 : Blk ((w2.setCell ⟨z, 2, none⟩ (.slice A2 dn c2)).setCell ⟨z, 4, none⟩ (.slice A' n' c')) (z + 1) 45 #[.int .i64 0, .int .i64 0, .slice none 0 0, .string ⟨#[]⟩, .slice none 0 0] := (HB12.out.set_ne (by omega) 2 _).set_ne (by omega) 4 _
  have hb3 : Below w.heap.size w ((w2.setCell ⟨z, 2, none⟩ (.slice A2 dn c2)).setCell ⟨z, 4, none⟩ (.slice A' n' c')) := ((below_mv HBA.out HB2.out).setCell (p := ⟨z, 2, none⟩) (Nat.le_of_eq HZ.out) _).setCell (p := ⟨z, 4, none⟩) (Nat.le_of_eq HZ.out) _
  have hz1 : z + 1 < w1.heap.size := HB1.out.lt
  have hzw := HZ.out
  have hr3 : RdG ((w2.setCell ⟨z, 2, none⟩ (.slice A2 dn c2)).setCell ⟨z, 4, none⟩ (.slice A' n' c')) (fun b => z + 2 ≤ b ∧ b < w2.heap.size) A2 (idsV p.deps) := (HR2.out.mono fun b hb => ⟨by have := hb.1; omega, hb.2⟩).to (((alike_set w2 z 2 (.slice A2 dn c2)).trans_ (alike_set _ z 4 (.slice A' n' c')) (by simp)).mono fun b hb => by omega)
  have hs3 : ((w2.setCell ⟨z, 2, none⟩ (.slice A2 dn c2)).setCell ⟨z, 4, none⟩ (.slice A' n' c')).heap.size = w2.heap.size := by simp
  clear x0 x1 x2 x3 x4 f2 f4 l0
  generalize ((w2.setCell ⟨z, 2, none⟩ (.slice A2 dn c2)).setCell ⟨z, 4, none⟩ (.slice A' n' c')) = w3 at b03 b13 hb3 hr3 hs3 ⊢
  have x0 := b03.cell 0 rfl; have x1 := b03.cell 1 rfl; have x2 := b03.cell 2 rfl; have x3 := b03.cell 3 rfl; have x4 := b03.cell 4 rfl
  have y0 := b13.cell 0 rfl; have y1 := b13.cell 1 rfl; have y2 := b13.cell 2 rfl; have y3 := b13.cell 3 rfl; have y4 := b13.cell 4 rfl
  have g0 := b13.frozen 0; have g1 := b13.frozen 1; have g2 := b13.frozen 2; have g3 := b13.frozen 3; have g4 := b13.frozen 4
  have hl0 := b03.lt; have hl1 := b13.lt
  have b14 := blk5 b13 (.int .i64 p.id.1) (.int .i64 p.id.2) (.slice A2 dn c2) (strV p.txt) (.slice A' n' c')
  have hb4 := below_set5 hb3 (show w.heap.size ≤ z + 1 by omega) (.int .i64 p.id.1) (.int .i64 p.id.2) (.slice A2 dn c2) (strV p.txt) (.slice A' n' c')
  have hr4 := hr3.to ((alike_set5 w3 (z + 1) (.int .i64 p.id.1) (.int .i64 p.id.2) (.slice A2 dn c2) (strV p.txt) (.slice A' n' c')).mono fun b hb => by omega)
  have hs4 : (World.setCell (World.setCell (World.setCell (World.setCell (World.setCell w3 ⟨z + 1, 0, none⟩ (.int .i64 p.id.1)) ⟨z + 1, 1, none⟩ (.int .i64 p.id.2)) ⟨z + 1, 2, none⟩ (.slice A2 dn c2)) ⟨z + 1, 3, none⟩ (strV p.txt)) ⟨z + 1, 4, none⟩ (.slice A' n' c')).heap.size = w3.heap.size := by simp
  have HB4 := Lib.hid hb4; have HR4 := Lib.hid hr4; have HS4 := Lib.hid (hs4.trans hs3); have B14 := Lib.hid b14; have HC2 := Lib.hid hc2
  clear b03 b13 hb3 hr3 hs3 hb4 hr4 hs4 b14 hz1 hzw hc2 HB2 HB02 HB12 HR2 HO HB0 HB1 HBA HR1
  go_wp2_with fail
  generalize (World.setCell (World.setCell (World.setCell (World.setCell (World.setCell w3 ⟨z + 1, 0, none⟩ (.int .i64 p.id.1)) ⟨z + 1, 1, none⟩ (.int .i64 p.id.2)) ⟨z + 1, 2, none⟩ (.slice A2 dn c2)) ⟨z + 1, 3, none⟩ (strV p.txt)) ⟨z + 1, 4, none⟩ (.slice A' n' c')) = w4 at *
  have u0 := B14.out.cell 0 rfl; have u1 := B14.out.cell 1 rfl; have u2 := B14.out.cell 2 rfl; have u3 := B14.out.cell 3 rfl; have u4 := B14.out.cell 4 rfl
  refine bodyPost_ret (v := .agg #[.int .i64 p.id.1, .int .i64 p.id.2, .slice A2 dn c2, strV p.txt, .slice A' n' c']) (by simp [results, Try.results48, go_sem, u0, u1, u2, u3, u4]) rfl ?_
  exact ⟨A2, c2, rfl, HC2.out, HR4.out.mono fun b hb => ⟨by have := HZ.out; omega, by have := HS4.out; omega⟩, HB4.out⟩

end Tg
end Go.Proofs.Ytdnkinajbebkoaa

set_option maxRecDepth 100000
namespace Go.Proofs.Ytdnkinajbebkoaa
open Go.RowKit Go.Shelf
set_option linter.unusedVariables false
namespace Fl
open Tx Rg
attribute [local go_sem] Oper.semAt_some

/-- Places from the last one on. -/
def dn (m : Nat) : List Nat := (List.range m).reverse
theorem dn_zero : dn 0 = [] := rfl
theorem dn_succ (k : Nat) : dn (k + 1) = k :: dn k := by unfold dn; rw [List.range_succ, List.reverse_append]; rfl
theorem dn_length (m : Nat) : (dn m).length = m := by unfold dn; simp
theorem dn_split : ∀ {m : Nat} {pre post : List Nat} {x : Nat}, dn m = pre ++ x :: post → pre.length + x + 1 = m
  | 0, pre, post, x, h => by simp [dn_zero] at h
  | m + 1, [], post, x, h => by
    rw [dn_succ] at h
    injection h with h1 h2
    simp; omega
  | m + 1, y :: pre, post, x, h => by
    rw [dn_succ, List.cons_append] at h
    injection h with h1 h2
    have := dn_split h2
    simp; omega

/-- What a round must keep: the box in which the slice lies, and that its changes can be read. -/
def KpL (Bs : Nat) (A : Option Addr) (m : Nat) (W W' : World) : Prop := (∀ v, Boxed W Bs 43 v → Boxed W' Bs 43 v) ∧ (Cells6 W A m → Cells6 W' A m)
section
variable {Bs m : Nat} {A : Option Addr}
theorem kpL_t {W W1 W2 : World} (h : KpL Bs A m W W1) (k : KpL Bs A m W1 W2) : KpL Bs A m W W2 := ⟨fun v hv => k.1 v (h.1 v hv), fun hv => k.2 (h.2 hv)⟩
theorem kpL_b {l : Nat} (hB : Bs ≠ l) (W : World) (o o' : Obj) (h : W.heap[l]? = some o) (ho : o.isCells = false) : KpL Bs A m W (W.putObj l o') :=
  ⟨fun v hv => hv.kept (grownBy_putObj' W l o') (by simpa using hB), fun hv => hv.kc (keepC_plain (grownBy_putObj' W l o') (fun r e => by cases e; exact ⟨o, h, ho⟩))⟩
theorem kpL_new {W W' : World} (hg : W.grownBy W' none) : KpL Bs A m W W' := ⟨fun v hv => hv.kept hg (by simp), fun hv => hv.kc (keepC_plain hg (fun r e => by cases e))⟩
end

/-- What is handed over. -/
def EL (m : Nat) (A : Option Addr) (i : Nat) (vals : Array Value) (W : World) : Prop := i < m ∧ ∃ a v0 v1 v2 v3 v4 v5, A = some a ∧ vals = #[.int .i64 (i : Int), .agg #[v0, v1, v2, v3, v4, v5]] ∧
  W.cell? (a.add (i * 6)) = some v0 ∧ W.cell? ⟨(a.add (i * 6)).block, (a.add (i * 6)).off + 1, none⟩ = some v1 ∧ W.cell? ⟨(a.add (i * 6)).block, (a.add (i * 6)).off + 2, none⟩ = some v2 ∧
  W.cell? ⟨(a.add (i * 6)).block, (a.add (i * 6)).off + 3, none⟩ = some v3 ∧ W.cell? ⟨(a.add (i * 6)).block, (a.add (i * 6)).off + 4, none⟩ = some v4 ∧ W.cell? ⟨(a.add (i * 6)).block, (a.add (i * 6)).off + 5, none⟩ = some v5

theorem backL_in (n : Nat) (A : Option Addr) (l c : Nat) (w : World) :
    CallsIn Fence.wide n Try.prog 73 #[.slice A l c] w fun e w' => e = .returned (.func (.func 85) #[] #[.pointer (some ⟨w.heap.size, 0, none⟩)]) ∧ w' = w.alloc (.cells #[.slice A l c] 43) := by
  refine callsIn_of_wp Try.func73 rfl trivial ?_ rfl
  simp only [Try.ntmps73, List.size_toArray, List.length_cons, List.length_nil, Nat.reduceAdd, Nat.reduceSub, Array.replicate_succ, Array.replicate_zero, List.push_toArray, List.append_toArray, List.nil_append, List.cons_append]
  gi_wp2
  go_ret
  exact ⟨rfl, rfl⟩

set_option maxRecDepth 100000 in
set_option maxHeartbeats 2000000 in
theorem backL1_in (n l Bs cap m : Nat) (A : Option Addr) (hle : m ≤ 1000000) (J Jx : List Nat → World → Prop)
    (hY : ∀ pre x post vals W1, dn m = pre ++ x :: post → J pre W1 → EL m A x vals W1 → YieldAt Fence.wide (n - 1) Try.prog l vals W1 fun e W' =>
      (e = .returned (.bool true) ∧ J (pre ++ [x]) W' ∧ KpL Bs A m W1 W') ∨ (e = .returned (.bool false) ∧ Jx (pre ++ [x]) W'))
    (W : World) (hBs : Boxed W Bs 43 (.slice A m cap)) (hR : Cells6 W A m) (h0 : J [] W) :
    CallsIn Fence.wide n Try.prog 85 #[.func (.yield l) #[] #[], .pointer (some ⟨Bs, 0, none⟩)] W fun e W' => (∃ v, e = .returned v) ∧ (J (dn m) W' ∨ ∃ pre post, dn m = pre ++ post ∧ Jx pre W') := by
  have hc := hBs.cell
  refine callsIn_of_wp Try.func85 rfl trivial ?_ rfl
  simp only [Try.ntmps85, List.size_toArray, List.length_cons, List.length_nil, Nat.reduceAdd, Nat.reduceSub, Array.replicate_succ, Array.replicate_zero, List.push_toArray, List.append_toArray, List.nil_append, List.cons_append]
  gi_wp2
  gi_loopw [3] (fun i wr => ∃ k pre, k ≤ m ∧ i = .int .i64 ((k : Int) - 1) ∧ dn m = pre ++ dn k ∧ J pre wr ∧ Boxed wr Bs 43 (.slice A m cap) ∧ Cells6 wr A m) (fun i _ => (intOf i + 1).toNat)
  case atStart => exact ⟨m, [], Nat.le_refl _, rfl, rfl, h0, hBs, hR⟩
  case round =>
    clear hc
    obtain ⟨k, pre, hk, rfl, hb, hJs, hBs', hR'⟩ := hrel
    have HB := Lib.hid hb; clear hb
    have HR := Lib.hid hR'; clear hR'
    have hc := hBs'.cell
    cases k with
    | zero =>
      have e : (((0 : Nat) : Int) - 1) = -1 := rfl
      rw [e]; clear e
      gi_wp2
      go_end0
      exact ⟨⟨_, rfl⟩, .inl (by have := HB.out; rw [dn_zero, List.append_nil] at this; rw [this]; exact hJs)⟩
    | succ k =>
      have e : (((k + 1 : Nat) : Int) - 1) = (k : Int) := by omega
      rw [e]; clear e
      have HB2 : Hid (dn m = pre ++ k :: dn k) := Lib.hid (by rw [HB.out, dn_succ])
      clear HB
      obtain ⟨a, v0, v1, v2, v3, v4, v5, rfl, c0, c1, c2, c3, c4, c5⟩ := HR.out k (by omega)
      obtain ⟨fn, tmps, assign, body, hy, hRR⟩ := hY pre k _ #[.int .i64 (k : Int), .agg #[v0, v1, v2, v3, v4, v5]] wr HB2.out hJs ⟨by omega, a, v0, v1, v2, v3, v4, v5, rfl, rfl, c0, c1, c2, c3, c4, c5⟩
      gi_wp2
      refine ⟨(fun h => by cases h), ?_⟩
      refine hRR.mono ?_
      rintro e W3 (⟨rfl, hJ3, hk3⟩ | ⟨rfl, hJx3⟩)
      · have hc3 := (hk3.1 _ hBs').cell
        clear c0 c1 c2 c3 c4 c5
        gi_wp2
        go_roundw
        case rel => exact ⟨k, pre ++ [k], by omega, rfl, by rw [HB2.out]; simp, hJ3, hk3.1 _ hBs', hk3.2 HR.out⟩
        case measure => simp [intOf]
      · gi_wp2
        refine bodyPost_ret (results_none rfl _ _ _) rfl ?_
        exact ⟨⟨_, rfl⟩, .inr ⟨pre ++ [k], dn k, by rw [HB2.out]; simp, hJx3⟩⟩

theorem backL_gives (n Bs cap m : Nat) (A : Option Addr) (hle : m ≤ 1000000) (w : World) (hBs : Boxed w Bs 43 (.slice A m cap)) (hR : Cells6 w A m) :
    GivesE Try.prog Plain n 85 #[.pointer (some ⟨Bs, 0, none⟩)] (EL m A) (dn m) (KpL Bs A m) w := fun J Jx W hW hs _ _ hY h0 =>
  backL1_in n _ Bs cap m A hle J Jx (fun pre x post vals W1 h1 h2 h3 => yield_less (hY pre x post vals W1 h1 h2 h3)) W ((hW.block Bs hBs.lt).trans hBs) (cells6_below hR hW) h0

end Fl
end Go.Proofs.Ytdnkinajbebkoaa

set_option maxRecDepth 100000
namespace Go.Proofs.Ytdnkinajbebkoaa
open Go.RowKit
set_option linter.unusedVariables false
set_option linter.unusedSimpArgs false
namespace Fl
open Tx Df Sq Hk Tr Pr

/-- The cells of one change within a row's. -/
def CellsAt (W : World) (S : Nat → Prop) (xs : List Value) (k : Nat) (x : Ch) : Prop :=
  ∃ A n c B m d, xs[k * 6]? = some (.int .i64 x.k) ∧ xs[k * 6 + 1]? = some (strV x.nm) ∧ xs[k * 6 + 2]? = some (strV x.to) ∧ xs[k * 6 + 3]? = some (.int .i64 x.h.pos) ∧ xs[k * 6 + 4]? = some (.slice A n c) ∧ xs[k * 6 + 5]? = some (.slice B m d) ∧ PG W S A n c B m d x
section
variable {W : World} {S T : Nat → Prop} {xs : List Value} {k p : Nat} {x y : Ch}
theorem cellsAt_set (h : CellsAt W S xs p y) (hp : p ≠ k) (u u' : Value) : CellsAt W S ((xs.set (k * 6 + 4) u).set (k * 6 + 5) u') p y := by
  obtain ⟨A, n, c, B, m, d, h0, h1, h2, h3, h4, h5, h6⟩ := h
  have key : ∀ b, b < 6 → ((xs.set (k * 6 + 4) u).set (k * 6 + 5) u')[p * 6 + b]? = xs[p * 6 + b]? := fun b hb => by
    rw [List.getElem?_set_ne (by omega), List.getElem?_set_ne (by omega)]
  exact ⟨A, n, c, B, m, d, (key 0 (by decide)).trans h0, (key 1 (by decide)).trans h1, (key 2 (by decide)).trans h2, (key 3 (by decide)).trans h3, (key 4 (by decide)).trans h4, (key 5 (by decide)).trans h5, h6⟩
theorem cellsAt_new {A B : Option Addr} {n c m d : Nat} (h : CellsAt W T xs k x) (hl : k * 6 + 5 < xs.length) (hy : PG W S A n c B m d x) : CellsAt W S ((xs.set (k * 6 + 4) (.slice A n c)).set (k * 6 + 5) (.slice B m d)) k x := by
  obtain ⟨_, _, _, _, _, _, h0, h1, h2, h3, _, _, _⟩ := h
  refine ⟨A, n, c, B, m, d, ?_, ?_, ?_, ?_, ?_, ?_, hy⟩
  · rw [List.getElem?_set_ne (by omega), List.getElem?_set_ne (by omega)]; exact h0
  · rw [List.getElem?_set_ne (by omega), List.getElem?_set_ne (by omega)]; exact h1
  · rw [List.getElem?_set_ne (by omega), List.getElem?_set_ne (by omega)]; exact h2
  · rw [List.getElem?_set_ne (by omega), List.getElem?_set_ne (by omega)]; exact h3
  · rw [List.getElem?_set_ne (by omega), List.getElem?_set_self (by omega)]
  · rw [List.getElem?_set_self (by rw [List.length_set]; exact hl)]
end

/-- Blocks made behind w that are not the row. -/
def Fresh (w W : World) (row : Option Nat) : Nat → Prop := fun b => w.heap.size ≤ b ∧ b < W.heap.size ∧ some b ≠ row
theorem fresh_up {w W W' : World} {row : Option Nat} (hs : W.heap.size ≤ W'.heap.size) : ∀ b, Fresh w W row b → Fresh w W' row b := fun b h => ⟨h.1, Nat.lt_of_lt_of_le h.2.1 hs, h.2.2⟩
theorem fresh_out {w W : World} {row : Option Nat} : ∀ b, Fresh w W row b → Out W row b := fun b h => ⟨h.2.1, h.2.2⟩

/-- A row of changes, the first k of them with lines of their own. -/
def OwnK (w W : World) (v : Value) (l : List Ch) (k : Nat) : Prop := ∃ xs, W.ownsRow w.heap.size 54 6 v l.length xs ∧ PCells W (Fresh w W v.ownBlock) (l.take k) xs ∧ PCells W (Out W v.ownBlock) l xs
section
variable {w W W' : World} {v : Value} {l : List Ch} {k : Nat}
theorem ownK_start (h : OwnP W w.heap.size v l) : OwnK w W v l 0 := by
  obtain ⟨xs, h1, h2⟩ := h
  exact ⟨xs, h1, by rw [List.take_zero]; exact PCells.nil _ _ _, h2⟩
theorem OwnK.own (h : OwnK w W v l k) : OwnP W w.heap.size v l := by
  obtain ⟨xs, h1, h2, h3⟩ := h
  exact ⟨xs, h1, h3⟩
theorem OwnK.done (h : OwnK w W v l k) (hk : l.length ≤ k) : OwnS W (Fresh w W v.ownBlock) w.heap.size v l := by
  obtain ⟨xs, h1, h2, h3⟩ := h
  rw [List.take_of_length_le hk] at h2
  exact ⟨xs, h1, h2⟩
theorem OwnK.below (h : OwnK w W v l k) (hb : Below W.heap.size W W') : OwnK w W' v l k := by
  obtain ⟨xs, h1, h2, h3⟩ := h
  exact ⟨xs, own_gr h1 (below_gr_row hb), (h2.to (fun b _ hl => hb.block b hl)).mono (fresh_up hb.size), (h3.to (fun b _ hl => hb.block b hl)).mono (out_up hb.size)⟩
theorem OwnK.step {g n cap : Nat} {x : Ch} {D D' : Option Addr} {m d m' d' : Nat} (h : OwnK w W (.slice (some ⟨g, 0, none⟩) n cap) l k) (hx : l[k]? = some x) (hy : PG W (Fresh w W (some g)) D m d D' m' d' x) :
    OwnK w ((W.setCell ⟨g, k * 6 + 4, none⟩ (.slice D m d)).setCell ⟨g, k * 6 + 5, none⟩ (.slice D' m' d')) (.slice (some ⟨g, 0, none⟩) n cap) l (k + 1) := by
  obtain ⟨xs, hr, h2, h3⟩ := h
  have hn : l.length = n := by
    rcases hr.2 with ⟨h0, _⟩ | ⟨g', cap', cur, h0, _⟩
    · cases h0
    · injection h0 with _ h0; exact h0.symm
  subst hn
  have hk : k < l.length := (List.getElem?_eq_some_iff.1 hx).1
  have hxl := hr.1
  obtain ⟨r1, g1⟩ := hr.stored (k * 6 + 4) (.slice D m d)
  obtain ⟨r2, g2⟩ := r1.stored (k * 6 + 5) (.slice D' m' d')
  have al : ∀ (S : Nat → Prop), (∀ b, S b → b ≠ g) → Alike S W ((W.setCell ⟨g, k * 6 + 4, none⟩ (.slice D m d)).setCell ⟨g, k * 6 + 5, none⟩ (.slice D' m' d')) := fun S hS b hb hl =>
    (alike_set _ g _ _ b (hS b hb) (by simp; exact hl)).trans (alike_set W g _ _ b (hS b hb) hl)
  have sz : W.heap.size ≤ ((W.setCell ⟨g, k * 6 + 4, none⟩ (.slice D m d)).setCell ⟨g, k * 6 + 5, none⟩ (.slice D' m' d')).heap.size := by simp
  have c0 : CellsAt W (Out W (some g)) xs k x := h3 k x hx
  refine ⟨_, r2, ?_, ?_⟩
  · refine (PCells.to (W := W) (S := Fresh w W (some g)) ?_ (al _ fun b hb e => hb.2.2 (by rw [e]))).mono (fresh_up sz)
    intro p y hy'
    rw [List.getElem?_take] at hy'
    by_cases e : p = k
    · subst e
      rw [if_pos (by omega)] at hy'
      rw [hx] at hy'
      injection hy' with hy'
      subst hy'
      exact cellsAt_new c0 (by omega) hy
    · have hp : p < k := by
        by_cases hp : p < k + 1
        · omega
        · rw [if_neg hp] at hy'; cases hy'
      rw [if_pos (by omega)] at hy'
      exact cellsAt_set (h2 p y (by rw [List.getElem?_take, if_pos hp]; exact hy')) e _ _
  · refine (PCells.to (W := W) (S := Out W (some g)) ?_ (al _ fun b hb e => hb.2 (by rw [e]))).mono (out_up sz)
    intro p y hy'
    by_cases e : p = k
    · subst e
      rw [hx] at hy'
      injection hy' with hy'
      subst hy'
      exact cellsAt_new c0 (by omega) (hy.mono fresh_out)
    · exact cellsAt_set (h3 p y hy') e _ _
end

/-- How own ends. -/
def MineEnd (w : World) (n : Nat) (l : List Ch) (e : Ending) (w' : World) : Prop :=
  ∃ A c, e = .returned (.slice A n c) ∧ n ≤ c ∧ OwnS w' (Fresh w w' (Value.slice A n c).ownBlock) w.heap.size (.slice A n c) l ∧ Below w.heap.size w w'

set_option maxRecDepth 100000 in
set_option maxHeartbeats 4000000 in
theorem ownL (A : Option Addr) (n c : Nat) (l : List Ch) (w : World) (hn : l.length = n) (hle : n ≤ 1000) (hl : Lt l) (hR : RdP w (· < w.heap.size) A l) :
    Calls Try.prog 64 #[.slice A n c] w (MineEnd w n l) := by
  have HR := Lib.hid hR; have HN := Lib.hid hn; have HL := Lib.hid hl
  clear hR hn hl
  go_enter Try.func64, Try.ntmps64
  go_wp2_with (at_builtin; refine wpList_ownPL rfl (.const (.slice none 0 0)) (.tmp 6) rfl w.heap.size w.heap.size n c (.slice none 0 0) A [] l rfl rfl (ownP_nil _ _) HR.out (Nat.le_refl _) HN.out (by simp; omega) (Nat.le_refl _) ?_; intro v w1 ho hg; have HO := Lib.hid (show OwnP w1 w.heap.size v l from ho); have HB := Lib.hid ((Below.refl w.heap.size w).grown hg (Nat.le_refl _) (fun k e => by cases e)); clear ho hg; obtain ⟨A1, c1, hv1, hc1⟩ : ∃ A1 c1, v = .slice A1 n c1 ∧ n ≤ c1 := (rdP_own HO.out).elim fun A1 h => h.elim fun c1 h => ⟨A1, c1, by rw [← HN.out]; exact h.1, by rw [← HN.out]; exact h.2.1⟩; subst hv1)
  clear HR
  go_loopw [10] (fun i wr => ∃ k : Nat, k ≤ n ∧ i = .int .i64 (k : Int) ∧ OwnK w wr (.slice A1 n c1) l k ∧ Below w.heap.size w wr) (fun i _ => n - (intOf i).toNat)
  case atStart => exact ⟨0, Nat.zero_le _, rfl, ownK_start HO.out, HB.out⟩
  case round =>
    clear HO HB
    obtain ⟨k, hk, rfl, ho, hb⟩ := hrel
    have HB := Lib.hid hb; have HO := Lib.hid ho
    clear hb ho
    by_cases hlt : k < n
    · obtain ⟨g, cap, e, hg1, hg2⟩ : ∃ g cap, Value.slice A1 n c1 = .slice (some ⟨g, 0, none⟩) n cap ∧ w.heap.size ≤ g ∧ g < wr.heap.size := by
        obtain ⟨xs, hr, _⟩ := HO.out
        rcases hr.2 with ⟨_, h1⟩ | ⟨g, cap, cur, e, hbg, hgb, hc, _⟩
        · have := HN.out; omega
        · injection e with e1 e2 e3
          subst e1 e3
          exact ⟨g, c1, rfl, hbg, (Array.getElem?_eq_some_iff.1 hgb).1⟩
      injection e with e1 e2 e3
      subst e1 e3
      clear e2
      have hki : (k : Int) < (n : Int) := by omega
      obtain ⟨x, hx⟩ : ∃ x, l[k]? = some x := ⟨_, List.getElem?_eq_getElem (by rw [HN.out]; exact hlt)⟩
      obtain ⟨B, i, j, D, m, d, c0, c1', c2, c3, c4, c5, hf, hp⟩ := OwnS.elem HO.out.own HN.out hx
      have HX := Lib.hid hx
      have HLX := Lib.hid (lt_len hp (HL.out x (List.mem_of_getElem? hx)))
      have HBX := Lib.hid (Blk.new wr 54 #[.int .i64 x.k, strV x.nm, strV x.to, .int .i64 x.h.pos, .slice B i j, .slice D m d])
      have HP := Lib.hid ((hp.mono fun b h => h.1).pv)
      clear hx hf hp
      have hba : Below wr.heap.size wr (wr.alloc (.cells #[.int .i64 x.k, strV x.nm, strV x.to, .int .i64 x.h.pos, .slice B i j, .slice D m d] 54)) := (Below.refl _ _).alloc (Nat.le_refl _) _
      have HPW := Lib.hid (HP.out.below hba); have HOW := Lib.hid (HO.out.below hba); have HBW := Lib.hid (HB.out.trans (hba.mono HB.out.size))
      have hsz : (wr.alloc (.cells #[.int .i64 x.k, strV x.nm, strV x.to, .int .i64 x.h.pos, .slice B i j, .slice D m d] 54)).heap.size = wr.heap.size + 1 := by simp
      have HSZ := Lib.hid hsz
      clear hba hsz HP HO HB
      go_upto_region 5 with fail
      clear c0 c1' c2 c3 c4 c5
      generalize (wr.alloc (.cells #[.int .i64 x.k, strV x.nm, strV x.to, .int .i64 x.h.pos, .slice B i j, .slice D m d] 54)) = W at *
      obtain ⟨z, hz⟩ : ∃ z, wr.heap.size = z := ⟨_, rfl⟩
      rw [hz] at HBX HPW HSZ hg2 ⊢
      clear hz
      have hlx := HLX.out
      have PX : Hid (∀ X, Below W.heap.size W X → Calls Try.prog 70 #[.slice B i j] X (fun e u => ∃ P p, e = .returned (.slice P i p) ∧ i ≤ p ∧ RdS u u.heap.size P x.h.old ∧ Hi X.heap.size P ∧ X.grownBy u none)) := Lib.hid (fun X hb => ownLines B i j z x.h.old X HPW.out.h.l (by omega) (by have := HSZ.out; have := hb.size; omega) (Rd.below HPW.out.h.r (hb.mono (by have := HSZ.out; omega))))
      have PY : Hid (∀ X, Below W.heap.size W X → Calls Try.prog 70 #[.slice D m d] X (fun e u => ∃ P p, e = .returned (.slice P m p) ∧ m ≤ p ∧ RdS u u.heap.size P x.h.new ∧ Hi X.heap.size P ∧ X.grownBy u none)) := Lib.hid (fun X hb => ownLines D m d z x.h.new X HPW.out.h.l' (by omega) (by have := HSZ.out; have := hb.size; omega) (Rd.below HPW.out.h.r' (hb.mono (by have := HSZ.out; omega))))
      have HGZ := Lib.hid (show z ≠ g by omega)
      have HSB : Hid (∀ X, Blk X z 54 #[.int .i64 x.k, strV x.nm, strV x.to, .int .i64 x.h.pos, .slice B i j, .slice D m d] → X.cell? ⟨z, 4, none⟩ = some (.slice B i j) ∧ X.cell? ⟨z, 5, none⟩ = some (.slice D m d)) := Lib.hid (fun X b => ⟨b.cell 4 rfl, b.cell 5 rfl⟩)
      have HC : Hid (∀ X, Below W.heap.size W X → X.cell? ⟨z, 4, none⟩ = some (.slice B i j) ∧ X.cell? ⟨z, 5, none⟩ = some (.slice D m d)) := Lib.hid (fun X hb => HSB.out X (HBX.out.below hb HBX.out.lt))
      have HKD := Lib.hid (HC.out W.drew (below_drewN (Below.refl _ _) 1))
      have hzl := HBX.out.lt
      obtain ⟨z4, z5⟩ := HC.out W (Below.refl _ _)
      go_region_held3 (fun X => X.cell? ⟨z, 4, none⟩ = some (.slice B i j) ∧ X.cell? ⟨z, 5, none⟩ = some (.slice D m d))
        (first | (with_reducible exact HKD.out) | (with_reducible exact hS5) | (with_reducible exact hS6) | (with_reducible exact HK2.out _ _) | (with_reducible exact HK3.out _ _ _ _))
        (first
          | (go_at_call 70; (with_reducible refine (PX.out W.drew (below_drewN (Below.refl _ _) 1)).mono ?_); rintro e w5 ⟨P5, p5, rfl, hk5, hr5, hh5, hg5⟩; have hbu := (below_drewN (Below.refl W.heap.size W) 1).trans (below_gr hg5); have hS5 := HC.out w5 hbu; have HU5 := Lib.hid hbu; have HR5 := Lib.hid hr5; have HH5 := Lib.hid hh5; have HK5 := Lib.hid hk5; clear hg5 hbu hr5 hh5 hk5)
          | (go_at_call 70; (with_reducible refine (PY.out w5 HU5.out).mono ?_); rintro e w6 ⟨P6, p6, rfl, hk6, hr6, hh6, hg6⟩; have hb6 := below_gr hg6; have hbu := HU5.out.trans (hb6.mono HU5.out.size); have hS6 := HC.out w6 hbu; have HU6 := Lib.hid hbu; have HB6 := Lib.hid hb6; have HR6 := Lib.hid hr6; have HH6 := Lib.hid hh6; have HK6 := Lib.hid hk6;
              have bz := HBX.out.below hbu HBX.out.lt;
              have HK2 := Lib.hid (fun (a : Nat) (v : Value) => HSB.out _ (bz.set_ne HGZ.out a v));
              have HK3 := Lib.hid (fun (a : Nat) (v : Value) (a' : Nat) (v' : Value) => HSB.out _ ((bz.set_ne HGZ.out a v).set_ne HGZ.out a' v'));
              have ho6 := HOW.out.below hbu; have HO6 := Lib.hid ho6;
              obtain ⟨_, _, _, _, _, _, q0, q1, q2, q3, q4, q5, qf, _⟩ := OwnS.elem ho6.own HN.out HX.out;
              have f4 := qf (k * 6 + 4); have f5 := qf (k * 6 + 5);
              clear q0 q1 q2 q3 qf ho6 bz hb6 hbu hr6 hh6 hk6 hg6))
      have HGL := Lib.hid (And.intro hg1 hg2)
      clear z4 z5 q4 q5 f4 f5 hS5 hS6 hzl HK2 HK3 HKD HC HSB PX PY
      go_wp2_with fail
      go_roundw
      case rel =>
        have v := HPW.out
        have hsz := HSZ.out
        have hgl := HGL.out
        have e5 : w5.heap.size ≤ w6.heap.size := HB6.out.size
        have u5 : W.heap.size ≤ w5.heap.size := HU5.out.size
        have r5 : RdG w6 (Fresh w w6 (some g)) P5 (x.h.old.map strV) := (rdG_hi (Rd.below HR5.out HB6.out) HH5.out).mono fun b hb => by
          have h1 : W.heap.size ≤ b := hb.1
          have h2 : b < w5.heap.size := hb.2
          exact ⟨by omega, by omega, fun e => by injection e with e; omega⟩
        have r6 : RdG w6 (Fresh w w6 (some g)) P6 (x.h.new.map strV) := (rdG_hi HR6.out HH6.out).mono fun b hb => by
          have h1 : w5.heap.size ≤ b := hb.1
          have h2 : b < w6.heap.size := hb.2
          exact ⟨by omega, by omega, fun e => by injection e with e; omega⟩
        refine ⟨k + 1, by omega, by go_num, OwnK.step HO6.out HX.out ⟨v.h.l, v.h.l', HK5.out, HK6.out, v.h.m, v.h.m', r5, r6, v.h.p, v.k, v.nm, v.to, v.s, v.s'⟩, ?_⟩
        exact ((HBW.out.trans (HU6.out.mono HBW.out.size)).setCell (p := ⟨g, k * 6 + 4, none⟩) hgl.1 _).setCell (p := ⟨g, k * 6 + 5, none⟩) hgl.1 _
      case measure => simp [intOf]; omega
    · have HE : Hid (l.length ≤ k) := Lib.hid (by rw [HN.out]; omega)
      go_wp2
      go_ret
      exact ⟨A1, c1, rfl, hc1, HO.out.done HE.out, HB.out⟩

end Fl
end Go.Proofs.Ytdnkinajbebkoaa

set_option maxRecDepth 100000
namespace Go.Proofs.Ytdnkinajbebkoaa
open Go.RowKit
set_option linter.unusedVariables false
namespace Fl
open Tx Df Sq Hk Tr Pr

theorem set_mid {α : Type} {l post : List α} {k : Nat} {p y : α} (h : l[k]? = some p) : (l.take (k + 1) ++ post).set k y = l.take k ++ y :: post := by
  have hk : k < l.length := (List.getElem?_eq_some_iff.1 h).1
  have hl : (l.take k).length = k := by rw [List.length_take]; omega
  rw [take_at h, List.append_assoc, List.set_append_right _ _ (by omega), hl, Nat.sub_self]
  rfl
theorem at_mid {α : Type} {l post : List α} {k : Nat} {p : α} (h : l[k]? = some p) : (l.take (k + 1) ++ post)[k]? = some p := by
  have hk : k < l.length := (List.getElem?_eq_some_iff.1 h).1
  rw [List.getElem?_append_left (by rw [List.length_take]; omega), List.getElem?_take, if_pos (by omega)]
  exact h
theorem len_mid {α : Type} {l post : List α} {k n : Nat} (h : post.length + k = n) (hl : l.length = n) : (l.take k ++ post).length = n := by
  rw [List.length_append, List.length_take]; omega

/-- How a call of Pass ends that tells x, y and bo. -/
def LPassEnd (w : World) (x y : List Ch) (bo : Bool) (e : Ending) (w' : World) : Prop :=
  ∃ A c B d, e = .returned (.tuple #[.slice A x.length c, .slice B y.length d, .bool bo]) ∧ RdP w' (· < w'.heap.size) A x ∧ RdP w' (· < w'.heap.size) B y ∧ Below w.heap.size w w'
def outF (o : Option (List Ch × List Ch)) : List Ch × List Ch := o.getD ([], [])
section
variable {w w' : World} {x y x' y' : List Ch} {bo : Bool} {o : Option (List Ch × List Ch)}
theorem outF_of (h : outF o = (x, y)) (hb : o.isSome = true) : o = some (x, y) := by
  cases o with
  | none => cases hb
  | some z => exact congrArg some h
end
theorem ownS_lt {W : World} {S : Nat → Prop} {base : Nat} {v : Value} {l : List Ch} (h : OwnS W S base v l) : ∀ g, v.ownBlock = some g → g < W.heap.size := fun g hg => by
  obtain ⟨xs, hr, hF⟩ := h
  rcases hr.2 with ⟨rfl, _⟩ | ⟨g', cap, cur, rfl, hbg, hg', hc, _⟩
  · cases hg
  · injection hg with hg
    subst hg
    exact (Array.getElem?_eq_some_iff.1 hg').1
theorem ownS_ge {W : World} {S : Nat → Prop} {base : Nat} {v : Value} {l : List Ch} (h : OwnS W S base v l) : ∀ g, v.ownBlock = some g → base ≤ g := fun g hg => by
  obtain ⟨xs, hr, hF⟩ := h
  exact own_ge hr g hg
theorem ownS_slice {W : World} {S : Nat → Prop} {base : Nat} {v : Value} {l : List Ch} (h : OwnS W S base v l) : ∃ A c, v = .slice A l.length c ∧ l.length ≤ c := by
  obtain ⟨xs, hr, hF⟩ := h
  rcases hr.2 with ⟨rfl, h1⟩ | ⟨g, cap, cur, rfl, hbg, hg, hc, _⟩
  · exact ⟨none, 0, by rw [h1], by rw [h1]; exact Nat.le_refl _⟩
  · exact ⟨_, cap, rfl, hc⟩
/-- A row of one's own is read as changes. -/
theorem rdP_of_own {W : World} {S : Nat → Prop} {base n c : Nat} {A : Option Addr} {l : List Ch} (h : OwnS W S base (.slice A n c) l) (hS : ∀ b, S b → b < W.heap.size) (hl : l.length = n) : RdP W (· < W.heap.size) A l := by
  by_cases h0 : l = []
  · exact .inl h0
  have hr0 := h
  obtain ⟨xs, hr, _⟩ := hr0
  rcases hr.2 with ⟨_, h1⟩ | ⟨g, cap, cur, e, _, hgb, hc, _⟩
  · exact absurd (List.eq_nil_of_length_eq_zero h1) h0
  · injection e with e1 e2 e3
    subst e1
    refine .inr ⟨_, rfl, (Array.getElem?_eq_some_iff.1 hgb).1, fun k x hx => ?_⟩
    obtain ⟨B, i', j, D, m', d, c0, c1, c2, c3, c4, c5, _, hp⟩ := h.elem hl hx
    have ea : (⟨g, 0, none⟩ : Addr).add (k * 6) = ⟨g, k * 6, none⟩ := by unfold Addr.add; split <;> simp_all
    exact ⟨by rw [ea]; exact c0, by rw [ea]; exact c1, by rw [ea]; exact c2, by rw [ea]; exact c3, B, i', j, D, m', d, by rw [ea]; exact c4, by rw [ea]; exact c5, hp.mono hS⟩

end Fl
end Go.Proofs.Ytdnkinajbebkoaa
