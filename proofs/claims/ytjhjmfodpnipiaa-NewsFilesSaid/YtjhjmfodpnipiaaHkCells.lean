/-
  Words for memory, layer 5: hunks in a row of one's own. No function of the program is walked here.
-/
import Derived.Test.YtjhjmfodpnipiaaGH
import Derived.Test.YtjhjmfodpnipiaaGD
import Derived.Test.YtjhjmfodpnipiaaGQ
set_option maxRecDepth 100000
namespace Go.Proofs.Ytjhjmfodpnipiaa
open Go.RowKit
set_option linter.unusedVariables false
namespace Hk
open Tx Df

/-- All blocks of lines are as they were. -/
def KpS (W W' : World) : Prop := ∀ (k : Nat) c f, W.heap[k]? = some (.cells c 9 f) → W'.heap[k]? = some (.cells c 9 f)
theorem KpS.refl (W : World) : KpS W W := fun _ _ _ h => h
theorem KpS.trans {W W1 W2 : World} (h : KpS W W1) (h' : KpS W1 W2) : KpS W W2 := fun k c f hk => h' k c f (h k c f hk)
theorem KpS.drewN (W : World) (d : Nat) : KpS W (W.drewN d) := fun _ _ _ h => h
theorem kpS_none {W W' : World} (hg : W.grownBy W' none) : KpS W W' := fun k c f hk => (hg.block k (Array.getElem?_eq_some_iff.1 hk).1 (nn k)).trans hk
theorem kpS_blk {W W' : World} {b : Nat} {t : TypeId} {cs : Array Value} (hb : Blk W b t cs) (ht : t ≠ 9) (hg : W.grownBy W' (some b)) : KpS W W' := fun k c f hk =>
  (hg.block k (Array.getElem?_eq_some_iff.1 hk).1 (fun e => by
    injection e with e; subst e
    rw [show W.heap[k]? = _ from hb] at hk; injection hk with hk; injection hk with _ h2; exact ht h2)).trans hk
theorem kpS_row {W W' : World} {base e size n : Nat} {v : Value} {xs : List Value} (hr : W.ownsRow base e size v n xs) (ht : e ≠ 9) (hg : W.grownBy W' v.ownBlock) : KpS W W' := fun k c f hk =>
  (hg.block k (Array.getElem?_eq_some_iff.1 hk).1 (fun eq => by
    rcases hr.2 with ⟨rfl, _⟩ | ⟨g, cap, cur, rfl, _, hgb, _⟩
    · simp [Value.ownBlock] at eq
    · obtain rfl : k = g := by simpa [Value.ownBlock] using eq
      rw [hk] at hgb; injection hgb with hgb; injection hgb with _ h2; exact ht h2.symm)).trans hk
theorem own_kpS {W W' : World} {h n : Nat} {v : Value} {xs : List Value} (hr : W.ownsRow h 9 1 v n xs) (hk : KpS W W') : W'.ownsRow h 9 1 v n xs := by
  refine ⟨hr.1, ?_⟩
  rcases hr.2 with h | ⟨g, cap, cur, k1, k2, k3, k4⟩
  · exact .inl h
  · exact .inr ⟨g, cap, cur, k1, k2, hk g _ _ k3, k4⟩

/-- The cells of hunks: their Old in rows of one's own, their New below block B. -/
def HCells (W : World) (h B : Nat) (hs : List HU) (xs : List Value) : Prop :=
  xs.length = hs.length * 3 ∧ ∀ (k : Nat) x, hs[k]? = some x → ∃ A c A' c', xs[k * 3]? = some (.int .i64 x.pos) ∧ xs[k * 3 + 1]? = some (.slice A x.old.length c) ∧ xs[k * 3 + 2]? = some (.slice A' x.new.length c') ∧
    W.ownsRow h 9 1 (.slice A x.old.length c) x.old.length (x.old.map strV) ∧ x.new.length ≤ c' ∧ RdS W B A' x.new ∧ I64 x.pos ∧ x.old.length ≤ maxLen ∧ x.new.length ≤ maxLen

theorem hcells_nil (W : World) (h B : Nat) : HCells W h B [] [] := ⟨rfl, fun k x hx => by simp at hx⟩
theorem HCells.kept {W W' : World} {h B : Nat} {hs : List HU} {xs : List Value} (H : HCells W h B hs xs) (hk : KpS W W') (hr : ∀ A ls, RdS W B A ls → RdS W' B A ls) : HCells W' h B hs xs := by
  refine ⟨H.1, fun k x hx => ?_⟩
  obtain ⟨A, c, A', c', g1, g2, g3, g4, g5, g6, g7⟩ := H.2 k x hx
  exact ⟨A, c, A', c', g1, g2, g3, own_kpS g4 hk, g5, hr _ _ g6, g7⟩
theorem hcells_snoc {W : World} {h B : Nat} {hs : List HU} {xs : List Value} {x : HU} {A A' : Option Addr} {c c' : Nat} (H : HCells W h B hs xs)
    (hr : W.ownsRow h 9 1 (.slice A x.old.length c) x.old.length (x.old.map strV)) (hc : x.new.length ≤ c') (hn : RdS W B A' x.new) (hp : I64 x.pos) (ho : x.old.length ≤ maxLen) (hl : x.new.length ≤ maxLen) :
    HCells W h B (hs ++ [x]) (xs ++ [.int .i64 x.pos, .slice A x.old.length c, .slice A' x.new.length c']) := by
  obtain ⟨h1, h2⟩ := H
  refine ⟨by simp only [List.length_append, h1, List.length_cons, List.length_nil]; omega, fun k y hy => ?_⟩
  rcases Nat.lt_trichotomy k hs.length with hk | rfl | hk
  · rw [List.getElem?_append_left hk] at hy
    obtain ⟨A, c, A', c', g1, g2, g3, g⟩ := h2 k y hy
    refine ⟨A, c, A', c', ?_, ?_, ?_, g⟩
    · rw [List.getElem?_append_left (by omega)]; exact g1
    · rw [List.getElem?_append_left (by omega)]; exact g2
    · rw [List.getElem?_append_left (by omega)]; exact g3
  · rw [List.getElem?_append_right (Nat.le_refl _), Nat.sub_self] at hy
    cases hy
    refine ⟨A, c, A', c', ?_, ?_, ?_, hr, hc, hn, hp, ho, hl⟩
    · rw [← h1, List.getElem?_append_right (Nat.le_refl _), Nat.sub_self]; rfl
    · rw [← h1, List.getElem?_append_right (by omega), Nat.add_sub_cancel_left]; rfl
    · rw [← h1, List.getElem?_append_right (by omega), Nat.add_sub_cancel_left]; rfl
  · rw [List.getElem?_eq_none (by simp; omega)] at hy; cases hy

/-- A row of hunks of one's own is read as hunks. -/
theorem rdH_own {W : World} {base h B n : Nat} {v : Value} {hs : List HU} {xs : List Value} (hr : W.ownsRow base 37 3 v n xs) (H : HCells W h B hs xs) (hn : hs.length = n) (hB : B ≤ W.heap.size) :
    ∃ A c, v = .slice A n c ∧ n ≤ c ∧ RdH W W.heap.size A hs := by
  rcases hr.2 with ⟨rfl, rfl⟩ | ⟨g, cap, cur, rfl, _, hg, hc, _⟩
  · exact ⟨none, 0, rfl, Nat.le_refl _, .inl (List.eq_nil_of_length_eq_zero hn)⟩
  · refine ⟨_, cap, rfl, hc, .inr ⟨_, rfl, (Array.getElem?_eq_some_iff.1 hg).1, fun k x hx => ?_⟩⟩
    obtain ⟨A, c, A', c', g1, g2, g3, g4, g5, g6, g7, g8, g9⟩ := H.2 k x hx
    have hk : k < hs.length := (List.getElem?_eq_some_iff.1 hx).1
    have ea : (⟨g, 0, none⟩ : Addr).add (k * 3) = ⟨g, k * 3, none⟩ := by unfold Addr.add; split <;> simp_all
    obtain ⟨A0, c0, e0, hc0, hrd⟩ := rd_of_own g4
    cases e0
    refine ⟨?_, A, c, A', c', ?_, ?_, rfl, rfl, hc0, g5, g8, g9, hrd, Rd.up g6 hB, g7⟩
    · rw [ea, hr.cellAt (k * 3) (by omega)]; exact g1
    · rw [ea]; show W.cell? ⟨g, k * 3 + 1, none⟩ = _; rw [hr.cellAt (k * 3 + 1) (by omega)]; exact g2
    · rw [ea]; show W.cell? ⟨g, k * 3 + 2, none⟩ = _; rw [hr.cellAt (k * 3 + 2) (by omega)]; exact g3

/-- All blocks below B are as they were but b. -/
def Keep (B b : Nat) (W W' : World) : Prop := ∀ k, k < B → k ≠ b → W'.heap[k]? = W.heap[k]?
theorem keep_gr {B b : Nat} {W W' : World} {row : Option Nat} (hg : W.grownBy W' row) (hB : B ≤ W.heap.size) (hr : ∀ k, row = some k → k = b ∨ B ≤ k) : Keep B b W W' := fun k hk hne =>
  hg.block k (by omega) (fun e => by rcases hr k e.symm with h | h <;> omega)
theorem Keep.trans {B b : Nat} {W W1 W2 : World} (h : Keep B b W W1) (h' : Keep B b W1 W2) : Keep B b W W2 := fun k hk hne => (h' k hk hne).trans (h k hk hne)

/-- What is read of edits and lines is read still where one block of two cells, no lines, has changed. -/
theorem rdS_gr {W W' : World} {B b : Nat} {t : TypeId} {A0 : Option Addr} {n0 c0 : Nat} {k0 : IntKind} {m0 : Int} {A : Option Addr} {ls : List (List UInt8)} (hb : Blk W b t #[.slice A0 n0 c0, .int k0 m0]) (hg : Keep B b W W') (hR : RdS W B A ls) : RdS W' B A ls := by
  rcases hR with h | ⟨a, e, hlt, hc⟩
  · exact .inl h
  · refine .inr ⟨a, e, hlt, fun j u hu => ?_⟩
    have hcell := hc j u hu
    refine (World.cell?_of_block (hg _ (by rw [add_block]; exact hlt) (fun eq => ?_))).trans hcell
    rw [List.getElem?_map, Option.map_eq_some_iff] at hu
    obtain ⟨l, _, rfl⟩ := hu
    unfold World.cell? at hcell
    rw [eq, show W.heap[b]? = _ from hb] at hcell
    simp only at hcell
    split at hcell
    · cases hcell
    · generalize (a.add j).off = o at hcell
      match o, hcell with
      | 0, h => simp at h
      | 1, h => simp at h
      | o + 2, h => simp at h
theorem rdE_gr {W W' : World} {B b : Nat} {t : TypeId} {A0 : Option Addr} {n0 c0 : Nat} {k0 : IntKind} {m0 : Int} {A : Option Addr} {es : List E} (hb : Blk W b t #[.slice A0 n0 c0, .int k0 m0]) (hg : Keep B b W W') (hR : RdE W B A es) : RdE W' B A es := by
  rcases hR with h | ⟨a, e, hlt, hc⟩
  · exact .inl h
  · refine .inr ⟨a, e, hlt, fun k x hx => ?_⟩
    obtain ⟨c0, c1, ⟨A, c, h2, h3, h4⟩, p, o, n⟩ := hc k x hx
    have hne : (a.add (k * 3)).block ≠ b := fun eq => by
      unfold World.cell? at h2
      simp only [eq, show W.heap[b]? = _ from hb] at h2
      simp at h2
    have kp : ∀ o u, W.cell? ⟨(a.add (k * 3)).block, o, none⟩ = some u → W'.cell? ⟨(a.add (k * 3)).block, o, none⟩ = some u := fun o u h => (World.cell?_of_block (a := ⟨(a.add (k * 3)).block, o, none⟩) (hg _ (by show (a.add (k * 3)).block < B; rw [add_block]; exact hlt) hne)).trans h
    exact ⟨(World.cell?_of_block (hg _ (by rw [add_block]; exact hlt) hne)).trans c0, kp _ _ c1, ⟨A, c, kp _ _ h2, h3, rdS_gr hb hg h4⟩, p, o, n⟩

end Hk
end Go.Proofs.Ytjhjmfodpnipiaa
