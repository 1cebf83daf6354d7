/-
  What Pairs of layer 3 returns (walk): the pairs of two lists, in memory of its own.
-/
import Derived.Test.YtkpgkbllcdpobaaLcPairs
namespace Go.Proofs.Ytkpgkbllcdpobaa
open Go.RowKit Go.Shelf
set_option linter.unusedVariables false
namespace Lc
open Tx Rg
attribute [local go_sem] Oper.semAt_some

theorem info_pair : (Try.prog.info? 60).map (fun i => (i.zero, i.size, i.bytes)) = some (some (.agg #[.int .i64 0, .int .i64 0]), 2, 16) := by kernel_rfl

/-- The cells of pairs. -/
def cellsP (l : List (Nat × Nat)) : List Value := l.flatMap fun p => [.int .i64 (p.1 : Int), .int .i64 (p.2 : Int)]
theorem cellsP_snoc (l : List (Nat × Nat)) (p : Nat × Nat) : cellsP (l ++ [p]) = cellsP l ++ [.int .i64 (p.1 : Int), .int .i64 (p.2 : Int)] := by simp [cellsP]

/-- How Pairs ends. -/
def PairsEnd (w : World) (l : List (Nat × Nat)) (e : Ending) (w' : World) : Prop :=
  ∃ v, e = .returned v ∧ w'.ownsRow w.heap.size 60 2 v l.length (cellsP l) ∧ Below w.heap.size w w'

theorem freeI_not (c : Array Value) {t : TypeId} (ht : t ≠ 3) : ¬ FreeI (.cells c t (0, 0)) := by
  rintro (h | ⟨v, h⟩)
  · cases h
  · injection h with h1 h2; exact ht h2

def AllInv (w : World) (pre : List (Nat × Nat)) (W : World) : Prop :=
  (∃ v, Boxed W w.heap.size 58 v ∧ W.ownsRow w.heap.size 60 2 v pre.length (cellsP pre)) ∧ Below w.heap.size w W
theorem allInv_ab (w : World) {B : Nat} (hB : w.heap.size ≤ B) : Ab FreeI B (AllInv w) :=
  Ab.and (ab_ex fun v => Ab.and (ab_boxed (fun _ => v) (fun _ => freeI_not _ (by decide))) (ab_row _ _ (fun _ => freeI_not _ (by decide)))) (ab_below (Nat.le_refl _) hB)

/-- The block of a pair. -/
def PBlock (W : World) (b : Nat) (p : Nat × Nat) : Prop := W.heap[b]? = some (.cells #[.int .i64 (p.1 : Int), .int .i64 (p.2 : Int)] 60 (0, 0))
theorem pblock_ab {b B : Nat} {p : Nat × Nat} : Ab FreeI B (fun (_ : Unit) W => PBlock W b p) := fun s W W' row hs hg hr =>
  (hg.block b (Array.getElem?_eq_some_iff.1 hs).1 (fun e => by obtain ⟨_, o, ho, hf⟩ := hr b e.symm; rw [show W.heap[b]? = _ from hs] at ho; cases ho; exact freeI_not _ (by decide) hf)).trans hs
theorem PBlock.c0 {W : World} {b : Nat} {p : Nat × Nat} (h : PBlock W b p) : W.cell? ⟨b, 0, none⟩ = some (.int .i64 (p.1 : Int)) := by simp [World.cell?, show W.heap[b]? = _ from h]
theorem PBlock.c1 {W : World} {b : Nat} {p : Nat × Nat} (h : PBlock W b p) : W.cell? ⟨b, 1, none⟩ = some (.int .i64 (p.2 : Int)) := by simp [World.cell?, show W.heap[b]? = _ from h]

theorem kpP_alloc {n₁ B : Nat} (W : World) (o : Obj) (hn : n₁ ≤ W.heap.size) : KpP n₁ B W (W.alloc o) :=
  ⟨(Below.refl _ _).alloc hn o, fun k c t f h _ _ => (Below.heap_alloc W o k (Array.getElem?_eq_some_iff.1 h).1).trans h, (KeepsOthers.alloc W o).from B⟩
/-- Behind an append to the list of pairs. -/
theorem kpP_app {n₁ B b : Nat} {W w1 : World} {tmp : Obj} {v v' : Value} {n : Nat} {xs : List Value} (hn : n₁ ≤ W.heap.size) (hb : n₁ ≤ b) (hv : Boxed W b 58 v) (hrow : W.ownsRow n₁ 60 2 v n xs) (hgrow : (W.alloc tmp).grownBy w1 v.ownBlock) :
    KpP n₁ B W (w1.setCell ⟨b, 0, none⟩ v') := by
  have hrow' := hrow.alloc tmp
  have hv' := hv.alloc tmp
  have h1 : KpP n₁ B (W.alloc tmp) w1 := by
    refine ⟨(Below.refl _ _).grown hgrow (by simp; omega) (own_ge hrow'), fun k c t f h ht _ => ?_, (KeepsOthers.of_grownBy hgrow fun j o e ho => ?_).from B⟩
    · refine (hgrow.block k (Array.getElem?_eq_some_iff.1 h).1 (fun e => ?_)).trans h
      rcases hrow'.2 with ⟨rfl, _⟩ | ⟨g, cap, cur, rfl, _, hg, _⟩
      · simp [Value.ownBlock] at e
      · obtain rfl : k = g := by simpa [Value.ownBlock] using e
        rw [h] at hg; cases hg; exact ht rfl
    · rcases hrow'.2 with ⟨rfl, _⟩ | ⟨g, cap, cur, rfl, _, hg, _⟩
      · simp [Value.ownBlock] at e
      · obtain rfl : g = j := by simpa [Value.ownBlock] using e
        rw [hg] at ho; cases ho; rfl
  have hv1 : Boxed w1 b 58 v := hv'.kept hgrow (hv'.not_row (by decide) hrow')
  refine kpP_t (kpP_t (kpP_alloc W tmp hn) h1) ⟨(Below.refl _ _).setCell (p := ⟨b, 0, none⟩) hb _, fun k c t f h _ ht => ?_, (KeepsOthers.setCell _ _ _).from B⟩
  refine (Below.heap_setCell _ _ _ k (fun e => ?_)).trans h
  subst e
  rw [show w1.heap[k]? = _ from hv1] at h; cases h; exact ht rfl

theorem cells2_new (W : World) (x y : Value) (t : TypeId) : ∀ (j : Nat) (u : Value), [x, y][j]? = some u → (W.alloc (.cells #[x, y] t)).cell? ((⟨W.heap.size, 0, none⟩ : Addr).add j) = some u := by
  intro j u hu
  have h := World.alloc_heap_new W (.cells #[x, y] t)
  match j with
  | 0 => simp at hu; subst hu; rw [add_zero']; unfold World.cell?; rw [h]; rfl
  | 1 => simp at hu; subst hu; rw [show (⟨W.heap.size, 0, none⟩ : Addr).add 1 = ⟨W.heap.size, 1, none⟩ from rfl]; unfold World.cell?; rw [h]; rfl
  | j + 2 => simp at hu

set_option maxRecDepth 100000 in
set_option maxHeartbeats 2000000 in
theorem Pairs (A A' : Option Addr) (c c' n m B : Nat) (ls bs : List (List UInt8)) (w : World) (hn : ls.length = n) (hm : bs.length = m) (hnc : n ≤ c) (hln : n ≤ 1000) (hlm : m ≤ 1000) (hB : B ≤ w.heap.size)
    (hR : RdS w B A ls) (hR' : RdS w B A' bs) :
    Calls Try.prog 40 #[.slice A n c, .slice A' m c'] w (PairsEnd w (pairs ls bs)) := by
  obtain ⟨i0, hi, hz0, hz1, hz2⟩ := info_parts info_pair
  have HM := Lib.hid hm; clear hm
  have HN := Lib.hid hn; clear hn
  refine (callsIn_wide (n := 4)).1 ?_
  refine callsIn_of_wp_marks Try.func40 rfl trivial ?_ rfl
  simp only [Try.ntmps40, List.size_toArray, List.length_cons, List.length_nil, Nat.reduceAdd, Nat.reduceSub, Array.replicate_succ, Array.replicate_zero, List.push_toArray, List.append_toArray, List.nil_append, List.cons_append]
  gi_wp2_with fail
  refine ⟨trivial, ?_⟩
  refine (pairs_in 3 _ _ _ _ _ _ _).mono ?_
  rintro e w' ⟨rfl, rfl⟩
  gi_wp2
  have hb0 := ((Boxed.new w 58 (.slice none 0 0)).alloc (.cells #[.slice A n c] 22)).alloc (.cells #[.slice A' m c'] 22)
  have hb1 := (Boxed.new (w.alloc (.cells #[.slice none 0 0] 58)) 22 (.slice A n c)).alloc (.cells #[.slice A' m c'] 22)
  have hb2 := Boxed.new ((w.alloc (.cells #[.slice none 0 0] 58)).alloc (.cells #[.slice A n c] 22)) 22 (.slice A' m c')
  simp only [World.size_alloc] at hb1 hb2
  have hw3 : Below w.heap.size w (((w.alloc (.cells #[.slice none 0 0] 58)).alloc (.cells #[.slice A n c] 22)).alloc (.cells #[.slice A' m c'] 22)) := (((Below.refl _ _).alloc (Nat.le_refl _) _).alloc (by simp) _).alloc (by simp; omega) _
  have hsz : (((w.alloc (.cells #[.slice none 0 0] 58)).alloc (.cells #[.slice A n c] 22)).alloc (.cells #[.slice A' m c'] 22)).heap.size = w.heap.size + 3 := by simp
  have hplen := pairs_len ls bs
  have hpl2 := (lcs_le ls bs).1
  rw [HN.out] at hpl2
  have HPL : Hid ((pairs ls bs).length ≤ 1000) := Lib.hid (by omega)
  clear hplen hpl2
  refine range_law (n := 4) (gf := 48) (lb := #[.pointer (some ⟨w.heap.size + 1, 0, none⟩), .pointer (some ⟨w.heap.size + 1 + 1, 0, none⟩)]) rfl (enters_of Try.func48 (by kernel_rfl) rfl) (Free := FreeI) (fun _ h => .inl h)
    (pairs_gives w.heap.size (w.heap.size + 1) (w.heap.size + 1 + 1) n m c c' A A' ls bs HN.out HM.out hnc hln hlm _ hb1 hb2 (by rw [hsz]; omega) ((hR.up hB).below hw3) ((hR'.up hB).below hw3))
    kpP_t (kpP_b (by rw [hsz]; omega) (by omega)) (fun x vals W h => by subst h; rfl)
    (AllInv w) (fun _ _ _ => False) (allInv_ab w (by rw [hsz]; omega)) (fun _ => ab_pure _ _ _) ⟨⟨_, hb0, World.ownsRow_nil _ _ _ _⟩, hw3⟩
    (fun p a' X => ∃ b, a' = { tmps := #[.slice A n c, .slice A' m c', undef, undef, .slice none 0 0, .pointer (some ⟨w.heap.size, 0, none⟩), .pointer (some ⟨b, 0, none⟩), .slice A n c, .slice A' m c', .func (.func 48) #[] #[.pointer (some ⟨w.heap.size + 1, 0, none⟩), .pointer (some ⟨w.heap.size + 1 + 1, 0, none⟩)], pairV p, undef, undef, undef, undef, undef], defers := [] } ∧ PBlock X b p)
    (fun p a' => ab_ex fun b => Ab.and (ab_pure _ _ _) pblock_ab) ?assign ?body ?done ?stop
  case assign =>
    rintro l pre p vals X K ⟨⟨v, hv, hrow⟩, hBl⟩ rfl hK
    have hw := hBl.size
    gi_wp2
    refine hK _ _ ((KeepsOthers.alloc X _).from _) (kpP_alloc X _ hw) ⟨⟨v, hv.alloc _, hrow.alloc _⟩, hBl.alloc hw _⟩ ⟨_, rfl, ?_⟩
    exact World.alloc_heap_new X _
  case body =>
    rintro l pre post p a' X hfull ⟨⟨v, hv, hrow⟩, hBl⟩ ⟨b, rfl, hpb⟩
    have hlen : pre.length < 1000 := by have := HPL.out; rw [hfull] at this; simp at this; omega
    clear hfull
    have hc := hv.cell
    have hc0 := hpb.c0
    have hc1 := hpb.c1
    have hw := hBl.size
    gi_wp2_with (gi_at_builtin; refine wpListIn_append_own _ rfl _ _ 58 rfl w.heap.size 60 i0 (.agg #[.int .i64 0, .int .i64 0]) 2 16 Try.underlying58 hi hz0 hz1 hz2 rfl (by decide) _ _ _ rfl (hrow.alloc _) ⟨X.heap.size, 0, none⟩ 1 1 [.int .i64 (p.1 : Int), .int .i64 (p.2 : Int)] rfl rfl (cells2_new _ _ _ _) (by simp [Value.oneCell']) (by unfold maxLen; omega) (by omega) (by simp; omega) ?_; intro v' w1 hown' hgrow _; obtain ⟨g', cap', rfl⟩ := ownsRow_succ hown'; obtain ⟨hv1, hv2, hr2, hk2, hb2⟩ := hv.appended (by decide) hrow hBl.size (by omega) hown' hgrow; have hc1 := hv1.cell; have hf1 := hv1.frozen)
    refine ⟨hk2.from _, kpP_app hw (Nat.le_refl _) hv hrow hgrow, ⟨_, hv2, ?_⟩, hBl.trans hb2⟩
    rw [List.length_append, cellsP_snoc]
    exact hr2
  case done =>
    rintro D W hD ⟨⟨v, hv, hrow⟩, hBl⟩ hK
    have hc := hv.cell
    obtain ⟨Av, cv, rfl⟩ : ∃ A c, v = .slice A (pairs ls bs).length c := by
      rcases hrow.2 with ⟨rfl, h⟩ | ⟨g, cap, cur, rfl, _⟩
      · exact ⟨none, 0, by rw [h]⟩
      · exact ⟨_, _, rfl⟩
    gi_wp2
    refine ⟨by simp, .inl ⟨_, _, rfl, run_takeDeferred hK, ?_⟩⟩
    refine ⟨_, results_tmp rfl _ _ _, _, rfl, ownsRow_putObj hrow _ hK rfl, ?_⟩
    exact hBl.grown (grownBy_putObj' _ D _) hBl.size (fun j e => by cases e; rw [hsz] at hD; omega)
  case stop =>
    rintro D c pre post W _ _ h _
    exact h.elim

end Lc
end Go.Proofs.Ytkpgkbllcdpobaa
