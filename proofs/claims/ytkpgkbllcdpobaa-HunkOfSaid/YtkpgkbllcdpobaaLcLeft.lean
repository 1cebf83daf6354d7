/-
  What slices.Clone (at rows), none, left and Many of layer 3 return (walks).
-/
import Derived.Test.YtkpgkbllcdpobaaLcRow
namespace Go.Proofs.Ytkpgkbllcdpobaa
open Go.RowKit Go.Shelf
set_option linter.unusedVariables false
namespace Lc
open Tx Rg
attribute [local go_sem] Oper.semAt_some

theorem info_int : (Try.prog.info? 3).map (fun i => (i.zero, i.size, i.bytes)) = some (some (.int .i64 0), 1, 8) := by kernel_rfl

/-- How a call ends that answers a row of its own. -/
def RowEnd (w : World) (n : Nat) (xs : List Value) (e : Ending) (w' : World) : Prop :=
  ∃ v, e = .returned v ∧ w'.ownsRow w.heap.size 3 1 v n xs ∧ Below w.heap.size w w'

theorem rd_cells {w : World} {B : Nat} {a : Addr} {xs : List Value} (h : Rd w B (some a) xs) : ∀ j u, xs[j]? = some u → w.cell? (a.add j) = some u := by
  rcases h with rfl | ⟨a', e, _, hc⟩
  · intro j u hu; simp at hu
  · injection e with e; subst e; exact hc
theorem rowV_one {α : Type} [DecidableEq α] (a b : List α) : ∀ u ∈ rowV a b, u.oneCell' = true := by
  intro u hu
  obtain ⟨j, _, rfl⟩ := List.mem_map.1 hu
  rfl

set_option maxHeartbeats 400000 in
theorem CloneR (a : Addr) (cap n B : Nat) (xs : List Value) (w : World) (hn : xs.length = n) (hle : n ≤ 2000) (hB : B ≤ w.heap.size) (hR : Rd w B (some a) xs) (h1 : ∀ u ∈ xs, u.oneCell' = true) :
    Calls Try.prog 63 #[.slice (some a) n cap] w (RowEnd w n xs) := by
  obtain ⟨j0, hj, hy0, hy1, hy2⟩ := info_parts info_int
  have q := fun (w : World) (a : Option Addr) (n c n' c' : Nat) => Lib.run_eql_slice_nil (P := Try.prog) w 74 3 a n c n' c' Try.underlying74
  have HN := Lib.hid hn; clear hn
  have hR1 := fun o => hR.below ((Below.refl _ _).alloc hB o)
  have HR1 := Lib.hid hR1; clear hR1
  go_enter Try.func63, Try.ntmps63
  go_wp2_with (at_builtin; refine wpList_append_own _ rfl (.tmp 5) (.tmp 6) 74 rfl w.heap.size 3 j0 (.int .i64 0) 1 8 Try.underlying74 hj hy0 hy1 hy2 rfl (by decide) (.slice (some ⟨w.heap.size, 0, none⟩) 0 0) 0 [] rfl (World.ownsRow_made _ #[] 0 (Nat.le_refl _) (Nat.zero_le _) rfl) a n cap xs rfl (by rw [Nat.mul_one]; exact HN.out) (rd_cells (HR1.out _)) h1 (by unfold maxLen; omega) (by omega) (by simp) ?_; intro v' w' hA hg _; simp only [Nat.zero_add, List.nil_append] at hA)
  go_ret
  exact ⟨_, rfl, hA, ((Below.refl _ _).alloc (Nat.le_refl _) _).grown hg (by simp) (fun k e => by cases e; exact Nat.le_refl _)⟩

theorem made_zero (n : Nat) : (madeCells (Value.int .i64 0).cells n).toList = List.replicate n (Value.int .i64 0) := by
  refine List.ext_getElem (by simp [madeCells]) fun i h1 h2 => ?_
  simp [madeCells, Value.cells, Nat.mod_one]
theorem rowV_nil {α : Type} [DecidableEq α] (b : List α) : rowV [] b = List.replicate (b.length + 1) (Value.int .i64 0) := by
  refine List.ext_getElem (by simp [rowV]) fun i h1 h2 => ?_
  simp [rowV, lcs_nil_left]

set_option maxHeartbeats 400000 in
theorem None (A : Option Addr) (cap m : Nat) (bs : List (List UInt8)) (w : World) (hm : bs.length = m) (hle : m ≤ 1000) :
    Calls Try.prog 55 #[.slice A m cap] w (RowEnd w (m + 1) (rowV [] bs)) := by
  obtain ⟨j0, hj, hy0, hy1, hy2⟩ := info_parts info_int
  have HN := Lib.hid hm; clear hm
  go_enter Try.func55, Try.ntmps55
  go_wp2_with (refine wpList_make_full _ rfl (.tmp 5) (.tmp 5) 74 rfl w.heap.size 3 j0 (.int .i64 0) 1 Try.underlying74 hj hy0 hy1 .i64 .i64 _ _ (m + 1) rfl rfl (by simp) (by simp) (by rw [hy2]; omega) (by unfold maxLen; omega) (Nat.le_refl _) ?_; intro w' hA hg)
  go_ret
  refine ⟨_, rfl, ?_, (Below.refl _ _).grown hg (Nat.le_refl _) (fun k e => by cases e)⟩
  rw [rowV_nil, HN.out, ← made_zero]
  simpa using hA

/-- Between two rounds of left. -/
def LeftInv (w : World) (Br m n : Nat) (bv v : Value) (ls zs bs : List (List UInt8)) (pre : List (Nat × Value)) (W : World) : Prop :=
  (Boxed W w.heap.size 22 bv ∧ Boxed W Br 74 v) ∧ W.ownsRow w.heap.size 3 1 v (m + 1) (rowV (ls.drop (n - pre.length) ++ zs) bs) ∧ Below w.heap.size w W
theorem leftInv_ab (w : World) (Br m n : Nat) (bv v : Value) (ls zs bs : List (List UInt8)) {B : Nat} (hB : w.heap.size ≤ B) : Ab Plain B (LeftInv w Br m n bv v ls zs bs) :=
  Ab.and (Ab.and (ab_boxed _ (fun _ => plain_cells _ _ _)) (ab_boxed _ (fun _ => plain_cells _ _ _))) (Ab.and (ab_row _ _ (fun _ => plain_cells _ _ _)) (ab_below (Nat.le_refl _) hB))

theorem left_next {w W W' : World} {Br Bs m n k g cap : Nat} {bv u : Value} {ls zs bs : List (List UInt8)} {pre : List (Nat × Value)} (hk : k < ls.length) (hn : ls.length = n) (hp : pre.length + k + 1 = n)
    (hI : LeftInv w Br m n bv (.slice (some ⟨g, 0, none⟩) (m + 1) cap) ls zs bs pre W)
    (hr : W'.ownsRow w.heap.size 3 1 (.slice (some ⟨g, 0, none⟩) (m + 1) cap) (m + 1) (rowV (ls[k] :: (ls.drop (n - pre.length) ++ zs)) bs)) (hg : W.grownBy W' (some g)) :
    (∀ B, KeepsFrom B W W') ∧ KpB w.heap.size Bs 22 W W' ∧ LeftInv w Br m n bv (.slice (some ⟨g, 0, none⟩) (m + 1) cap) ls zs bs (pre ++ [(k, u)]) W' := by
  obtain ⟨⟨hb, hr0⟩, hrow, hbel⟩ := hI
  have hgw := (hrow.lt g rfl).1
  have hgb : ∃ cur, W.heap[g]? = some (.cells cur 3 (0, 0)) := by
    rcases hrow.2 with ⟨h, _⟩ | ⟨g', _, cur, h, _, h3, _⟩
    · cases h
    · injection h with h; injection h with h; injection h with h; subst h; exact ⟨cur, h3⟩
  obtain ⟨cur, hcur⟩ := hgb
  have nb : ∀ {b : Nat} {t : TypeId} {v : Value}, Boxed W b t v → t ≠ 3 → some b ≠ some g := fun h ht => h.not_row ht hrow
  refine ⟨fun B => (KeepsOthers.of_grownBy hg (fun j o e ho => by cases e; rw [hcur] at ho; cases ho; rfl)).from B, ⟨(Below.refl _ _).grown hg (by have := hbel.size; omega) (fun j e => by cases e; exact hgw), fun v hv => hv.kept hg (nb hv (by decide))⟩,
    ⟨hb.kept hg (nb hb (by decide)), hr0.kept hg (nb hr0 (by decide))⟩, ?_, hbel.grown hg hbel.size (fun j e => by cases e; exact hgw)⟩
  have e2 : n - (pre ++ [(k, u)]).length = k := by simp; omega
  have e1 : n - pre.length = k + 1 := by omega
  rw [e2, List.drop_eq_getElem_cons hk]
  rw [e1] at hr
  exact hr

set_option maxRecDepth 100000 in
set_option maxHeartbeats 2000000 in
theorem left (A A' Ar : Option Addr) (c c' cr n m B : Nat) (ls zs bs : List (List UInt8)) (w : World) (hn : ls.length = n) (hm : bs.length = m) (hln : n ≤ 1000) (hlm : m ≤ 1000) (hB : B ≤ w.heap.size)
    (hR : RdS w B A ls) (hR' : RdS w B A' bs) (hRr : Rd w B Ar (rowV zs bs)) :
    Calls Try.prog 59 #[.slice A n c, .slice A' m c', .slice Ar (m + 1) cr] w (RowEnd w (m + 1) (rowV (ls ++ zs) bs)) := by
  have HM := Lib.hid hm; clear hm
  have HN := Lib.hid hn; clear hn
  obtain ⟨ar, rfl, _, _⟩ := hRr.at_ (k := 0) (by rw [rowV_length]; omega)
  have hR1 : ∀ o, Rd (w.alloc o) B (some ar) (rowV zs bs) := fun o => hRr.below ((Below.refl _ _).alloc hB o)
  have HR1 := Lib.hid hR1; clear hR1
  refine (callsIn_wide (n := 3)).1 ?_
  refine callsIn_of_wp_marks Try.func59 rfl trivial ?_ rfl
  simp only [Try.ntmps59, List.size_toArray, List.length_cons, List.length_nil, Nat.reduceAdd, Nat.reduceSub, Array.replicate_succ, Array.replicate_zero, List.push_toArray, List.append_toArray, List.nil_append, List.cons_append]
  gi_wp2_with fail
  refine ⟨trivial, ?_⟩
  refine (callsIn_wide.2 (CloneR ar cr (m + 1) B (rowV zs bs) _ (by rw [rowV_length, HM.out]) (by omega) (by simp; omega) (HR1.out _) (rowV_one _ _))).mono ?_
  rintro e w2 ⟨v, rfl, hrow, hbel⟩
  obtain ⟨g, cap, rfl⟩ := ownsRow_succ hrow
  have hbox := (show Boxed w2 w.heap.size 22 (.slice A' m c') from (hbel.block _ (by simp)).trans (Boxed.new w _ _))
  have hw2 : Below w.heap.size w w2 := ((Below.refl _ _).alloc (Nat.le_refl _) _).trans (hbel.mono (by simp))
  have hrw := own_mono (base' := w.heap.size) hrow (by simp)
  have hgw := (hrow.lt g rfl)
  have hsz := hw2.size
  clear hrow hbel
  gi_wp2_with fail
  refine ⟨trivial, ?_⟩
  refine (backS_in 2 _ _ _ _).mono ?_
  rintro e w' ⟨rfl, rfl⟩
  gi_wp2
  have hB1 := Boxed.new w2 74 (.slice (some ⟨g, 0, none⟩) (m + 1) cap)
  have hB2 := Boxed.new (w2.alloc (.cells #[.slice (some ⟨g, 0, none⟩) (m + 1) cap] 74)) 22 (.slice A n c)
  rw [World.size_alloc] at hB2
  have hw4 : Below w.heap.size w ((w2.alloc (.cells #[.slice (some ⟨g, 0, none⟩) (m + 1) cap] 74)).alloc (.cells #[.slice A n c] 22)) := (hw2.alloc hsz _).alloc (by simp; omega) _
  refine range_law' (n := 3) (gf := 66) (lb := #[.pointer (some ⟨w2.heap.size + 1, 0, none⟩)]) rfl (enters_of Try.func66 (by kernel_rfl) rfl) (Free := Plain) (fun _ h => h)
    (backS_gives 2 (w2.heap.size + 1) w.heap.size c n A (ls.map strV) (by simpa using HN.out) (by omega) _ hB2 (by simp; omega) ((hR.up hB).below hw4)) kpB_t (kpB_b (by simp; omega) (by simp)) kpB_r (fun _ => rfl)
    (LeftInv w w2.heap.size m n (.slice A' m c') (.slice (some ⟨g, 0, none⟩) (m + 1) cap) ls zs bs) (fun _ _ _ => False) (leftInv_ab _ _ _ _ _ _ _ _ _ (by simp; omega)) (fun _ => ab_pure _ _ _) ?h0 ?a1 ?assign ?body ?done ?stop
  case h0 =>
    refine ⟨⟨(hbox.alloc _).alloc _, hB1.alloc _⟩, ?_, hw4⟩
    rw [List.length_nil, Nat.sub_zero, List.drop_of_length_le (by rw [HN.out]; exact Nat.le_refl _)]
    exact (hrw.alloc _).alloc _
  case assign =>
    intro l x W K hK
    gi_wp2
    exact hK
  case body =>
    rintro l pre post ⟨k, v⟩ W hfull hI
    obtain ⟨hk, hv, hp⟩ := bk_split hfull
    dsimp only at hk hv hp
    clear hfull
    have hkb : k < ls.length := by simpa using hk
    obtain rfl : v = strV ls[k] := by rw [← hv]; simp
    clear hv hk
    rw [List.length_map, HN.out] at hp
    obtain ⟨⟨h3, h4⟩, hrw', hgr⟩ := id hI
    have HI := Lib.hid hI; clear hI
    have hc3 := h3.cell
    have hc4 := h4.cell
    have hsW := hgr.size
    have HP := Lib.hid hp; clear hp
    gi_wp2_with fail
    refine ⟨trivial, ?_⟩
    refine (CallsIn.inRound l (callsIn_wide.2 (stepBack A' c' m w.heap.size g cap ls[k] (ls.drop (n - pre.length) ++ zs) bs _ HM.out hlm ((hR'.up hB).below hgr) hsW hrw'))).mono ?_
    rintro e W' ⟨⟨v, rfl⟩, hr2, hg2⟩
    have hend := left_next (Bs := w2.heap.size + 1) (u := strV ls[k]) hkb HN.out HP.out HI.out hr2 hg2
    gi_wp2
    exact ⟨hend.1 _, hend.2⟩
  case done =>
    rintro D W hD ⟨⟨_, h4⟩, hrow', hgr⟩ hK
    have hc := h4.cell
    gi_wp2
    refine ⟨by simp, .inl ⟨_, _, rfl, run_takeDeferred hK, ?_⟩⟩
    refine ⟨_, results_tmp rfl _ _ _, _, rfl, ?_, ?_⟩
    · have := ownsRow_putObj hrow' (.deferred none) hK rfl
      rw [bk_length, List.length_map, HN.out, Nat.sub_self, List.drop_zero] at this
      exact this
    · exact hgr.grown (grownBy_putObj' _ D _) hgr.size (fun j e => by cases e; simp at hD; omega)
  case stop =>
    rintro D c pre post W _ _ h _
    exact h.elim

/-- How Many ends: nothing that was there is written. -/
def ManyEnd (w : World) (k : Nat) (e : Ending) (w' : World) : Prop := e = .returned (.int .i64 (k : Int)) ∧ Below w.heap.size w w'

end Lc
end Go.Proofs.Ytkpgkbllcdpobaa
