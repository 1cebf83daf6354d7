/-
  What pairs of layer 3 gives (walk): the pairs of two lists, one by one.
-/
import Derived.Test.YtkpgkbllcdpobaaLcRows
namespace Go.Proofs.Ytkpgkbllcdpobaa
open Go.RowKit Go.Shelf
set_option linter.unusedVariables false
namespace Lc
open Tx Rg
attribute [local go_sem] Oper.semAt_some

/-- The iterator turns what is no cells, and boxes of numbers. -/
def FreeI (o : Obj) : Prop := o.isCells = false ∨ ∃ v, o = .cells #[v] 3 (0, 0)
/-- What a round that is handed a pair keeps: all cells but those of pairs and of lists of pairs; and whatever else is new. -/
def KpP (n₁ B : Nat) (X Y : World) : Prop := Below n₁ X Y ∧ (∀ (k : Nat) (c : Array Value) (t : TypeId) (f : Nat × Nat), X.heap[k]? = some (Obj.cells c t f) → t ≠ 60 → t ≠ 58 → Y.heap[k]? = some (Obj.cells c t f)) ∧ KeepsFrom B X Y
theorem kpP_t {n₁ B : Nat} {X Y Z : World} (h : KpP n₁ B X Y) (k : KpP n₁ B Y Z) : KpP n₁ B X Z := ⟨h.1.trans k.1, fun i c t f h1 h2 h3 => k.2.1 i c t f (h.2.1 i c t f h1 h2 h3) h2 h3, h.2.2.trans k.2.2⟩
theorem kpP_r {n₁ B : Nat} (W : World) : KpP n₁ B W W := ⟨Below.refl _ _, fun _ _ _ _ h _ _ => h, KeepsFrom.refl _ _⟩
theorem kpP_b {n₁ B l : Nat} (hn : n₁ ≤ l) (hl : l < B) (W : World) (o o' : Obj) (h : W.heap[l]? = some o) (hc : o.isCells = false) : KpP n₁ B W (W.putObj l o') :=
  ⟨(kpK_b (K := fun _ _ => True) hn W o o' h hc).1, fun k c t f h1 _ _ => (kpK_b (K := fun _ _ => True) hn W o o' h hc).2 k c t f h1 trivial, ⟨by simp, fun k o1 hk h1 _ => (World.putObj_heap_other (by omega)).trans h1⟩⟩

/-- All cells but those of pairs, and two boxes. -/
def KI (Bi Bj : Nat) (k : Nat) (t : TypeId) : Prop := t ≠ 60 ∧ t ≠ 58 ∧ k ≠ Bi ∧ k ≠ Bj
theorem kpI_of_P {n₁ B Bi Bj : Nat} {X Y : World} (h : KpP n₁ B X Y) : KpK n₁ (KI Bi Bj) X Y := ⟨h.1, fun k c t f h1 h2 => h.2.1 k c t f h1 h2.1 h2.2.1⟩
theorem kpK_grown {n₁ b : Nat} {K : Nat → TypeId → Prop} {W W' : World} (hg : W.grownBy W' (some b)) (hn : n₁ ≤ b) (hs : n₁ ≤ W.heap.size) (hK : ∀ t, ¬ K b t) : KpK n₁ K W W' :=
  ⟨(Below.refl _ _).grown hg hs (fun k e => by cases e; exact hn), fun k c t f h1 h2 => by
    by_cases e : k = b
    · subst e; exact (hK t h2).elim
    · exact (hg.block k (Array.getElem?_eq_some_iff.1 h1).1 (by simpa using e)).trans h1⟩

theorem held_ab {K : Nat → TypeId → Prop} {A : Option Addr} {xs : List Value} {B : Nat} {β : Type} : Ab (β := β) Plain B (fun _ W => Held K W A xs) := fun s W W' row hs hg hr => by
  rcases hs with h | ⟨a, c, t, f, h1, h2, h3, h4⟩
  · exact .inl h
  · have h5 : W'.heap[a.block]? = W.heap[a.block]? := hg.block _ (Array.getElem?_eq_some_iff.1 h2).1 (fun e => by
      obtain ⟨_, o, ho, hf⟩ := hr _ e.symm
      rw [h2] at ho; cases ho; cases hf)
    exact .inr ⟨a, c, t, f, h1, h5.trans h2, h3, fun j u hu => (World.cell?_of_block (w := W) (a := a.add j) (by rw [add_block]; exact h5)).trans (h4 j u hu)⟩
theorem rowH_ab {K : Nat → TypeId → Prop} {u : Value} {xs : List Value} {B : Nat} {β : Type} : Ab (β := β) Plain B (fun _ W => RowH K W u xs) := ab_ex fun A => ab_ex fun c => Ab.and (ab_pure _ _ _) held_ab

theorem pairs_in (n : Nat) (A A' : Option Addr) (l c l' c' : Nat) (w : World) :
    CallsIn Fence.wide n Try.prog 45 #[.slice A l c, .slice A' l' c'] w fun e w' => e = .returned (.func (.func 48) #[] #[.pointer (some ⟨w.heap.size, 0, none⟩), .pointer (some ⟨w.heap.size + 1, 0, none⟩)]) ∧ w' = (w.alloc (.cells #[.slice A l c] 22)).alloc (.cells #[.slice A' l' c'] 22) := by
  refine callsIn_of_wp Try.func45 rfl trivial ?_ rfl
  simp only [Try.ntmps45, List.size_toArray, List.length_cons, List.length_nil, Nat.reduceAdd, Nat.reduceSub, Array.replicate_succ, Array.replicate_zero, List.push_toArray, List.append_toArray, List.nil_append, List.cons_append]
  gi_wp2
  go_ret
  exact ⟨rfl, rfl⟩

/-- The value of a pair. -/
abbrev pairV (p : Nat × Nat) : Value := .agg #[.int .i64 (p.1 : Int), .int .i64 (p.2 : Int)]

/-- What stays through the rounds of pairs: z is the heap's size where its own boxes begin. -/
structure PBox (z Ba Bb l : Nat) (va vb : Value) (W : World) : Prop where
  ba : Boxed W Ba 22 va
  bb : Boxed W Bb 22 vb
  y : Boxed W z 70 (.func (.yield l) #[] #[])

/-- Between two rounds of pairs: i places of a are over, and j of b; what has been told, and the rest, are all pairs. -/
def PInv (n₁ z Ba Bb l m : Nat) (va vb : Value) (A A' : Option Addr) (ls bs : List (List UInt8)) (J : List (Nat × Nat) → World → Prop) (pre : List Nat) (W : World) : Prop :=
  (PBox z Ba Bb l va vb W ∧ Boxed W (z + 1) 3 (.int .i64 (pre.length : Int))) ∧
    (∃ j dn, (j ≤ m ∧ pairs ls bs = dn ++ rest ls bs pre.length j) ∧ Boxed W (z + 1 + 1) 3 (.int .i64 (j : Int)) ∧ J dn W) ∧ (RdS W n₁ A ls ∧ RdS W n₁ A' bs) ∧ n₁ ≤ W.heap.size
/-- A round has left. -/
def PLeft (full : List (Nat × Nat)) (J Jx : List (Nat × Nat) → World → Prop) (c : Code) (_ : List Nat) (W : World) : Prop :=
  c = .ret ∧ (J full W ∨ ∃ p q, full = p ++ q ∧ Jx p W)

theorem rd_ab {B n₁ : Nat} {β : Type} {A : Option Addr} {xs : List Value} (hB : n₁ ≤ B) : Ab (β := β) Plain B (fun _ W => Rd W n₁ A xs ∧ n₁ ≤ W.heap.size) := fun s W W' row hs hg hr =>
  ⟨hs.1.below ((Below.refl _ _).grown hg hs.2 (fun k e => by have := (hr k e).1; omega)), Nat.le_trans hs.2 hg.size⟩

theorem pInv_ab {n₁ z Ba Bb l m B B' : Nat} {va vb : Value} {A A' : Option Addr} {ls bs : List (List UInt8)} {J : List (Nat × Nat) → World → Prop} (hJ : Ab FreeI B' J) (hB : B' ≤ B) (hn : n₁ ≤ B) : Ab Plain B (PInv n₁ z Ba Bb l m va vb A A' ls bs J) := by
  have hJ' : ∀ dn, Ab Plain B (fun (_ : List Nat) W => J dn W) := fun dn s W W' row hs hg hr => hJ dn W W' row hs hg (fun r e => ⟨by have := (hr r e).1; omega, let ⟨o, h1, h2⟩ := (hr r e).2; ⟨o, h1, .inl h2⟩⟩)
  intro s W W' row hs hg hr
  obtain ⟨⟨⟨h1, h2, h3⟩, h4⟩, ⟨j, dn, h5, h6, h7⟩, ⟨h8, h9⟩, h10⟩ := hs
  have bx : ∀ {b : Nat} {t : TypeId} {v : Value}, Boxed W b t v → Boxed W' b t v := fun h => ab_boxed (Free := Plain) (B := B) (fun _ : Unit => _) (fun _ => plain_cells _ _ _) () W W' row h hg hr
  have r1 := rd_ab (β := Unit) hn () W W' row ⟨h8, h10⟩ hg hr
  have r2 := rd_ab (β := Unit) hn () W W' row ⟨h9, h10⟩ hg hr
  exact ⟨⟨⟨bx h1, bx h2, bx h3⟩, bx h4⟩, ⟨j, dn, h5, bx h6, hJ' dn s W W' row h7 hg hr⟩, ⟨r1.1, r2.1⟩, r1.2⟩
theorem pLeft_ab {B B' : Nat} {full : List (Nat × Nat)} {J Jx : List (Nat × Nat) → World → Prop} (hJ : Ab FreeI B' J) (hJx : Ab FreeI B' Jx) (hB : B' ≤ B) (c : Code) : Ab Plain B (PLeft full J Jx c) := fun s W W' row hs hg hr => by
  have hr' : ∀ r, row = some r → B' ≤ r ∧ ∃ o : Obj, W.heap[r]? = some o ∧ FreeI o := fun r e => ⟨by have := (hr r e).1; omega, let ⟨o, h1, h2⟩ := (hr r e).2; ⟨o, h1, .inl h2⟩⟩
  refine ⟨hs.1, ?_⟩
  rcases hs.2 with h | ⟨p, q, h1, h2⟩
  · exact .inl (hJ _ W W' row h hg hr')
  · exact .inr ⟨p, q, h1, hJx _ W W' row h2 hg hr'⟩

theorem range_at {n i : Nat} {pre post : List Nat} (h : List.range n = pre ++ i :: post) : i = pre.length ∧ i < n := by
  have hl : n = pre.length + (post.length + 1) := by have := congrArg List.length h; simpa using this
  have hx : (List.range n)[pre.length]? = some i := by rw [h]; simp
  rw [List.getElem?_range (by omega)] at hx
  exact ⟨(Option.some.inj hx).symm, by have := Option.some.inj hx; omega⟩
/-- The number in a box. -/
def jOf (W : World) (b : Nat) : Nat := match W.cell? ⟨b, 0, none⟩ with | some (.int _ q) => q.toNat | _ => 0
theorem jOf_eq {W : World} {b : Nat} {t : TypeId} {j : Nat} (h : Boxed W b t (.int .i64 (j : Int))) : jOf W b = j := by unfold jOf; rw [h.cell]; simp
theorem pbox_kp {n₁ z Ba Bb l : Nat} {va vb : Value} {X W' : World} (h : PBox z Ba Bb l va vb X) (ha : Ba < z) (hb : Bb < z) (hk : KpK n₁ (KI (z + 1) (z + 1 + 1)) X W') : PBox z Ba Bb l va vb W' :=
  ⟨box_kp h.ba ⟨by decide, by decide, by omega, by omega⟩ hk, box_kp h.bb ⟨by decide, by decide, by omega, by omega⟩ hk, box_kp h.y ⟨by decide, by decide, by omega, by omega⟩ hk⟩
theorem kpK_drewN {n₁ : Nat} {K : Nat → TypeId → Prop} (W : World) (d : Nat) : KpK n₁ K W (W.drewN d) := ⟨below_drewN (Below.refl _ _) d, fun _ _ _ _ h _ => h⟩
theorem keepsFrom_drewN (B : Nat) (W : World) (d : Nat) : KeepsFrom B W (W.drewN d) := ⟨Nat.le_refl _, fun _ _ _ h _ => h⟩

theorem round_depth {P : Program} {a b l l' f : Nat} {t : Array Value} {as' bd : Code} {w : World} {R : Ending → World → Prop} (h : RoundIn Fence.wide a P l f t as' bd w R) : RoundIn (Fence.wide.inRound l') b P l f t as' bd w R := ⟨trivial, fun c cs _ => h.2 c cs (room_wide _)⟩
/-- A store into one of the two boxes. -/
theorem pset {n₁ z b B0 : Nat} {v : Value} {J : List (Nat × Nat) → World → Prop} {dn : List (Nat × Nat)} {Y : World} (hJ : Ab FreeI B0 J) (h : Boxed Y b 3 v) (hb : b = z + 1 ∨ b = z + 1 + 1) (hz : B0 ≤ z) (hn : n₁ ≤ z) (u : Value) (hd : J dn Y) :
    KpK n₁ (KI (z + 1) (z + 1 + 1)) Y (Y.setCell ⟨b, 0, none⟩ u) ∧ (∀ B, KeepsFrom B Y (Y.setCell ⟨b, 0, none⟩ u)) ∧ Boxed (Y.setCell ⟨b, 0, none⟩ u) b 3 u ∧ J dn (Y.setCell ⟨b, 0, none⟩ u) := by
  have hg := grownBy_setCell' Y b u
  refine ⟨kpK_grown hg (by omega) (by have := h.lt; omega) (fun t hk => ?_), fun B => (KeepsOthers.setCell _ _ _).from B, h.set u, hJ dn Y _ _ hd hg (fun r e => by cases e; exact ⟨by omega, _, h, .inr ⟨_, rfl⟩⟩)⟩
  rcases hb with hb | hb
  · exact hk.2.2.1 hb
  · exact hk.2.2.2 hb

theorem p_close {n₁ z Ba Bb l m i j : Nat} {va vb : Value} {A A' : Option Addr} {ls bs : List (List UInt8)} {J : List (Nat × Nat) → World → Prop} {pre : List Nat} {dn : List (Nat × Nat)} {X W' : World} (hbx : PBox z Ba Bb l va vb X) (ha : Ba < z) (hb : Bb < z) (hkp : KpK n₁ (KI (z + 1) (z + 1 + 1)) X W')
    (hra : RdS X n₁ A ls) (hrb : RdS X n₁ A' bs) (hlo : n₁ ≤ X.heap.size) (hi : i = pre.length) (hbi : Boxed W' (z + 1) 3 (.int .i64 ((i : Int) + 1))) (hbj : Boxed W' (z + 1 + 1) 3 (.int .i64 (j : Int))) (hj : j ≤ m) (hJ : J dn W') (hp : pairs ls bs = dn ++ rest ls bs (i + 1) j) :
    PInv n₁ z Ba Bb l m va vb A A' ls bs J (pre ++ [i]) W' := by
  have e : (pre ++ [i]).length = i + 1 := by simp [hi]
  unfold PInv
  rw [e]
  exact ⟨⟨pbox_kp hbx ha hb hkp, by simpa using hbi⟩, ⟨j, dn, ⟨hj, hp⟩, hbj, hJ⟩, ⟨hra.below hkp.1, hrb.below hkp.1⟩, Nat.le_trans hlo hkp.1.size⟩

theorem boxes5 (w : World) (v0 v1 v2 v3 v4 : Value) (t0 t1 t2 t3 t4 : TypeId) :
    let w5 := ((((w.alloc (.cells #[v0] t0)).alloc (.cells #[v1] t1)).alloc (.cells #[v2] t2)).alloc (.cells #[v3] t3)).alloc (.cells #[v4] t4)
    Boxed w5 w.heap.size t0 v0 ∧ Boxed w5 (w.heap.size + 1) t1 v1 ∧ Boxed w5 (w.heap.size + 1 + 1) t2 v2 ∧ Boxed w5 (w.heap.size + 1 + 1 + 1) t3 v3 ∧ Boxed w5 (w.heap.size + 1 + 1 + 1 + 1) t4 v4 ∧ w.grownBy w5 none := by
  intro w5
  obtain ⟨h0, h1, h2, h3, hg⟩ := boxes4 w v0 v1 v2 v3 t0 t1 t2 t3
  have b4 := Boxed.new ((((w.alloc (.cells #[v0] t0)).alloc (.cells #[v1] t1)).alloc (.cells #[v2] t2)).alloc (.cells #[v3] t3)) t4 v4
  simp only [World.size_alloc] at b4
  exact ⟨h0.alloc _, h1.alloc _, h2.alloc _, h3.alloc _, b4, grow_trans hg (World.grownBy_alloc _ _ none) (by simp)⟩

set_option maxRecDepth 100000 in
set_option maxHeartbeats 4000000 in
theorem pairs_gives (n₁ Ba Bb n m c c' : Nat) (A A' : Option Addr) (ls bs : List (List UInt8)) (hn : ls.length = n) (hm : bs.length = m) (hnc : n ≤ c) (hln : n ≤ 1000) (hlm : m ≤ 1000) (w : World)
    (hba : Boxed w Ba 22 (.slice A n c)) (hbb : Boxed w Bb 22 (.slice A' m c')) (hlo : n₁ ≤ w.heap.size) (hR : RdS w n₁ A ls) (hR' : RdS w n₁ A' bs) :
    Gives Try.prog FreeI 3 48 #[.pointer (some ⟨Ba, 0, none⟩), .pointer (some ⟨Bb, 0, none⟩)] (fun p => #[pairV p]) (pairs ls bs) (KpP n₁ (w.heap.size + 2)) w := fun J Jx W hW hs hJ hJx hY h0 => by
  have HM := Lib.hid hm; clear hm
  have HN := Lib.hid hn; clear hn
  have hba1 : Boxed W Ba 22 (.slice A n c) := (hW.block Ba hba.lt).trans hba
  have hbb1 : Boxed W Bb 22 (.slice A' m c') := (hW.block Bb hbb.lt).trans hbb
  have hR1 := hR.below (hW.mono hlo)
  have hR1' := hR'.below (hW.mono hlo)
  have hla := hba.lt
  have hlb := hbb.lt
  clear hba hbb hR hR' hW
  have hz : w.heap.size + 2 = W.heap.size := hs.symm
  have hlow : n₁ ≤ W.heap.size := by omega
  have hla' : Ba < W.heap.size := by omega
  have hlb' : Bb < W.heap.size := by omega
  rw [hz] at hJ hJx
  generalize hyl : w.heap.size + 1 = yl at *
  have HY := Lib.hid hY; clear hY
  have HZ := Lib.hid hz; clear hz hyl hs hla hlb hlo
  have hca : ∀ o1 o2 o3 : Obj, (((W.alloc o1).alloc o2).alloc o3).cell? ⟨Ba, 0, none⟩ = some (.slice A n c) := fun o1 o2 o3 => (((hba1.alloc o1).alloc o2).alloc o3).cell
  have hcb : ∀ o1 o2 o3 : Obj, (((W.alloc o1).alloc o2).alloc o3).cell? ⟨Bb, 0, none⟩ = some (.slice A' m c') := fun o1 o2 o3 => (((hbb1.alloc o1).alloc o2).alloc o3).cell
  refine callsIn_of_wp_marks Try.func48 rfl trivial ?_ rfl
  simp only [Try.ntmps48, List.size_toArray, List.length_cons, List.length_nil, Nat.reduceAdd, Nat.reduceSub, Array.replicate_succ, Array.replicate_zero, List.push_toArray, List.append_toArray, List.nil_append, List.cons_append]
  gi_wp2_with fail
  refine ⟨trivial, ?_⟩
  refine (rows_in 2 _ _ _ _ _ _ _).mono ?_
  rintro e w' ⟨rfl, rfl⟩
  clear hca hcb
  gi_wp2
  obtain ⟨hB0, hB1, hB2, hB3, hB4, hg5⟩ := boxes5 W (.func (.yield yl) #[] #[]) (.int .i64 0) (.int .i64 0) (.slice A n c) (.slice A' m c') 70 3 3 22 22
  have hb5 := (Below.refl n₁ W).grown hg5 hlow (by simp)
  have hsz5 : (((((W.alloc (.cells #[.func (.yield yl) #[] #[]] 70)).alloc (.cells #[.int .i64 0] 3)).alloc (.cells #[.int .i64 0] 3)).alloc (.cells #[.slice A n c] 22)).alloc (.cells #[.slice A' m c'] 22)).heap.size = W.heap.size + 5 := by simp
  refine range_law (n := 3) (gf := 51) (lb := #[.pointer (some ⟨W.heap.size + 1 + 1 + 1, 0, none⟩), .pointer (some ⟨W.heap.size + 1 + 1 + 1 + 1, 0, none⟩)]) rfl (enters_of Try.func51 (by kernel_rfl) rfl) (Free := Plain) (fun _ h => h)
    (rows_gives 2 n₁ (W.heap.size + 1 + 1 + 1) (W.heap.size + 1 + 1 + 1 + 1) n m c c' (KI (W.heap.size + 1) (W.heap.size + 1 + 1)) A A' ls bs HN.out HM.out hnc hln hlm _
      ⟨by decide, by decide, by omega, by omega⟩ ⟨by decide, by decide, by omega, by omega⟩ (fun k hk => by rw [hsz5] at hk; exact ⟨⟨by decide, by decide, by omega, by omega⟩, ⟨by decide, by decide, by omega, by omega⟩, ⟨by decide, by decide, by omega, by omega⟩⟩) hB3 hB4 (by rw [hsz5]; omega) (hR1.below hb5) (hR1'.below hb5))
    kpK_t (kpK_b (by rw [hsz5]; omega)) (fun x vals W h => by obtain ⟨v1, v2, rfl, _⟩ := h; rfl)
    (PInv n₁ W.heap.size Ba Bb yl m (.slice A n c) (.slice A' m c') A A' ls bs J) (PLeft (pairs ls bs) J Jx) (pInv_ab hJ (by rw [hsz5]; omega) (by rw [hsz5]; omega)) (pLeft_ab hJ hJx (by rw [hsz5]; omega)) ?h0
    (fun x a' X => ∃ v1 v2, a' = { tmps := #[.func (.yield yl) #[] #[], .pointer (some ⟨Ba, 0, none⟩), .pointer (some ⟨Bb, 0, none⟩), .pointer (some ⟨W.heap.size, 0, none⟩), .pointer (some ⟨W.heap.size + 1, 0, none⟩), .pointer (some ⟨W.heap.size + 1 + 1, 0, none⟩), v1, v2, .slice A n c, .slice A' m c', .func (.func 51) #[] #[.pointer (some ⟨W.heap.size + 1 + 1 + 1, 0, none⟩), .pointer (some ⟨W.heap.size + 1 + 1 + 1 + 1, 0, none⟩)], v1, v2, undef, undef, undef, undef, undef, undef, undef, undef, undef, undef, undef, undef, undef, undef, undef, undef, undef, undef, undef, undef, undef, undef, undef, undef, undef, undef, undef, undef, undef, undef, undef, undef, undef, undef, undef, undef, undef, undef, undef, undef, undef, undef, undef, undef, undef, undef, undef, undef, undef, undef, undef, undef], defers := [] } ∧ RowH (KI (W.heap.size + 1) (W.heap.size + 1 + 1)) X v1 (rowV (ls.drop x) bs) ∧ RowH (KI (W.heap.size + 1) (W.heap.size + 1 + 1)) X v2 (rowV (ls.drop (x + 1)) bs))
    (fun x a' => ab_ex fun v1 => ab_ex fun v2 => Ab.and (ab_pure _ _ _) (Ab.and rowH_ab rowH_ab)) ?assign ?body ?done ?stop
  case h0 =>
    have kb : ∀ {b : Nat} {t : TypeId} {v : Value}, Boxed W b t v → Boxed _ b t v := fun h => h.kept hg5 (by simp)
    refine ⟨⟨⟨kb hba1, kb hbb1, hB0⟩, hB1⟩, ⟨0, [], ⟨Nat.zero_le _, ?_⟩, hB2, hJ.new h0 hg5⟩, ⟨hR1.below hb5, hR1'.below hb5⟩, by rw [hsz5]; omega⟩
    rw [List.nil_append, List.length_nil, rest_zero]
  case assign =>
    rintro l pre x vals X K hi ⟨v1, v2, rfl, h1, h2⟩ hK
    gi_wp2
    exact hK _ _ (KeepsFrom.refl _ _) (kpK_r _) hi ⟨v1, v2, rfl, h1, h2⟩
  case body =>
    rintro l pre post i a' X hfull hI ⟨v1, v2, rfl, ⟨Ah, ch, rfl, hr1⟩, ⟨An, cn, rfl, hr2⟩⟩
    obtain ⟨hi, hin⟩ := range_at hfull
    clear hfull
    simp only [rowV_length, HM.out]
    obtain ⟨⟨hbx, hI4⟩, ⟨j0, dn, ⟨hj0, hpairs⟩, hJb, hJd⟩, ⟨hra, hrb⟩, hlo⟩ := hI
    rw [← hi] at hI4 hpairs
    have HIP := Lib.hid hi; clear hi
    have HPR := Lib.hid hpairs; clear hpairs
    have hil : i < ls.length := by rw [HN.out]; exact hin
    obtain ⟨aa, rfl, hca⟩ := hra.at' hil
    obtain ⟨ah, rfl, _, _⟩ := hr1.rd.at_ (k := 0) (by rw [rowV_length]; omega)
    obtain ⟨an, rfl, _, _⟩ := hr2.rd.at_ (k := 0) (by rw [rowV_length]; omega)
    gi_wp2
    gi_loopw [13] (fun _ wr => ∃ j : Nat, j ≤ m ∧ Boxed wr (W.heap.size + 1 + 1) 3 (.int .i64 (j : Int)) ∧ X.grownBy wr (some (W.heap.size + 1 + 1)) ∧ pairs ls bs = dn ++ rest ls bs i j) (fun _ wr => m - jOf wr (W.heap.size + 1 + 1))
    case atStart => exact ⟨j0, hj0, hJb, World.grownBy.refl _ _, HPR.out⟩
    case round =>
      obtain ⟨j, hj, hbj, hg, hpj⟩ := hrel
      clear HPR
      have HPJ := Lib.hid hpj; clear hpj
      have hkp : KpK n₁ (KI (W.heap.size + 1) (W.heap.size + 1 + 1)) X wr := kpK_grown hg (by omega) hlo (fun t h => h.2.2.2 rfl)
      have hkf : ∀ B, KeepsFrom B X wr := fun B => (KeepsOthers.of_grownBy hg (fun k o e ho => by cases e; rw [show X.heap[W.heap.size + 1 + 1]? = _ from hJb] at ho; cases ho; rfl)).from B
      have hbw := pbox_kp hbx hla' hlb' hkp
      have hiw := hI4.kept hg (by simp)
      have hJw : J dn wr := hJ dn X wr _ hJd hg (fun r e => by cases e; exact ⟨by omega, _, hJb, .inr ⟨_, rfl⟩⟩)
      have hrbw : RdS wr n₁ A' bs := hrb.below hkp.1
      have hraw : RdS wr n₁ (some aa) ls := hra.below hkp.1
      have hlow' : n₁ ≤ wr.heap.size := Nat.le_trans hlo hkp.1.size
      have hcaw := (hkp.1.cell (p := aa.add i) (by obtain ⟨a1, e1, h1, _⟩ := hra.at_ (k := i) (by simpa using hil); injection e1 with e1; subst e1; rw [add_block]; exact h1)).trans hca
      have c1 := hbw.ba.cell
      have c2 := hbw.bb.cell
      have c3 := hbw.y.cell
      have c4 := hiw.cell
      have c5 := hbj.cell
      have f4 := hiw.frozen
      have f5 := hbj.frozen
      have hini : (i : Int) < (n : Int) := by omega
      by_cases hjm : j < m
      · have hjb : j < bs.length := by rw [HM.out]; exact hjm
        obtain ⟨ab, rfl, hcbw⟩ := hrbw.at' hjb
        have hcn := rd_cells (hr2.kp hkp).rd j _ (rowV_at _ _ (by omega))
        have hch := rd_cells (hr1.kp hkp).rd (j + 1) _ (rowV_at _ _ (by omega))
        rw [show ah.add (j + 1) = ⟨ah.block, ah.off + (j + 1), none⟩ by simp [Addr.add]] at hch
        have hjmi : (j : Int) < (m : Int) := by omega
        have j0' : (0 : Int) ≤ (j : Int) + 1 := by omega
        have j1' : ((j : Int) + 1).toNat = j + 1 := by omega
        have j2' : (j : Int) + 1 < (m : Int) + 1 := by omega
        have j3' : (j : Int) < (m : Int) + 1 := by omega
        have j4' : IntKind.i64.wrap ((j : Int) + 1) = (j : Int) + 1 := IntWalk.i64_in _ (by omega)
        by_cases hxy : ls[i] = bs[j]
        · have HR : Hid (rest ls bs i j = (i, j) :: rest ls bs (i + 1) (j + 1)) := Lib.hid (rest_same hil hjb hxy)
          have hbe : (ls[i] == bs[j]) = true := by simpa using hxy
          have hbn : (ls[i] != bs[j]) = false := by simpa using hxy
          have hjme : ((j : Int) == (m : Int)) = false := by simp; omega
          generalize ls[i] = x at *
          generalize bs[j] = y at *
          clear hxy hcn hch
          gi_wp2
          refine round_quiet (by kernel_rfl) (by kernel_rfl) (by kernel_rfl) ?_ ?_
          · rintro ⟨_, _, h⟩; exact h
          repeat (go_big_quiet_step (fail))
          refine wpQuiet_nil ?_
          intro _ hw'
          obtain ⟨nq, hw''⟩ := hw'
          subst hw''
          clear j0' j1' j2' j3' j4'
          gi_wp2
          refine round_quiet (by kernel_rfl) (by kernel_rfl) (by kernel_rfl) ?_ ?_
          · rintro ⟨_, _, h⟩; exact h
          repeat (go_big_quiet_step (fail))
          refine wpQuiet_nil ?_
          intro _ hw'
          obtain ⟨nq2, hw''⟩ := hw'
          subst hw''
          have hJ2 : J dn (wr.drewN (nq + nq2)) := hJ.new hJw (drew_new wr (nq + nq2))
          have hsp : pairs ls bs = dn ++ (i, j) :: rest ls bs (i + 1) (j + 1) := by rw [HPJ.out, HR.out]
          obtain ⟨fn, tmps, assign, body, hy, hRR⟩ := HY.out dn (i, j) _ _ (wr.drewN (nq + nq2)) hsp hJ2 rfl
          dsimp only [pairV] at hy
          have HSP := Lib.hid hsp; clear hsp
          gi_wp2
          refine (round_depth hRR).mono ?_
          rintro e W3 (⟨rfl, hJ3, hk3⟩ | ⟨rfl, hJx3, hkx3⟩)
          · have hbi3 : Boxed W3 (W.heap.size + 1) 3 (.int .i64 (i : Int)) := hk3.2.1 _ _ _ _ hiw (by decide) (by decide)
            have hbj3 : Boxed W3 (W.heap.size + 1 + 1) 3 (.int .i64 (j : Int)) := hk3.2.1 _ _ _ _ hbj (by decide) (by decide)
            have d4 := hbi3.cell
            have d5 := hbj3.cell
            have e4 := hbi3.frozen
            have e5 := hbj3.frozen
            obtain ⟨k1, k2, k3, k4⟩ := pset (z := W.heap.size) (n₁ := n₁) hJ hbj3 (.inr rfl) (Nat.le_refl _) hlow (.int .i64 ((j : Int) + 1)) hJ3
            obtain ⟨k5, k6, k7, k8⟩ := pset (z := W.heap.size) (n₁ := n₁) hJ (hbi3.other (B' := W.heap.size + 1 + 1) (by simp) (.int .i64 ((j : Int) + 1))) (.inl rfl) (Nat.le_refl _) hlow (.int .i64 ((i : Int) + 1)) k4
            have kk := kpK_t (kpK_t (kpK_t (kpK_t hkp (kpK_drewN wr (nq + nq2))) (kpI_of_P hk3)) k1) k5
            have HK := Lib.hid (And.intro k2 (And.intro k6 (And.intro k7 (And.intro k3 k8))))
            have hks3 := hk3.2.2
            clear k1 k2 k3 k4 k5 k6 k7 k8
            gi_wp2
            refine ⟨((((hkf _).trans (keepsFrom_drewN _ wr (nq + nq2))).trans (keepsFrom_mono hks3 (by rw [hsz5, HZ.out]; omega))).trans (HK.out.1 _)).trans (HK.out.2.1 _), kk, p_close (j := j + 1) hbx hla' hlb' kk hra hrb hlo HIP.out HK.out.2.2.1 ?_ (by omega) HK.out.2.2.2.2 (by rw [HSP.out]; simp)⟩
            have := HK.out.2.2.2.1.other (B' := W.heap.size + 1) (by simp) (.int .i64 ((i : Int) + 1))
            simpa using this
          · gi_wp2
            exact ⟨((hkf _).trans (keepsFrom_drewN _ wr (nq + nq2))).trans (keepsFrom_mono hkx3 (by rw [hsz5, HZ.out]; omega)), rfl, .inr ⟨dn ++ [(i, j)], _, by rw [HSP.out, List.append_assoc]; rfl, hJx3⟩⟩
        · by_cases hlt : tab ls bs (i + 1) j < tab ls bs i (j + 1)
          · have HR : Hid (rest ls bs i j = rest ls bs i (j + 1)) := Lib.hid (by rw [rest_ne hil hjb hxy, if_neg (by omega)])
            have hbe : (ls[i] == bs[j]) = false := by simpa using hxy
            have hbn : (ls[i] != bs[j]) = true := by simpa using hxy
            have hq1 := lcs_len (ls.drop i) bs (j + 1)
            have hq2 := lcs_len (ls.drop (i + 1)) bs j
            unfold tab at hlt
            generalize ls[i] = x at *
            generalize bs[j] = y at *
            generalize lcs (ls.drop i) (bs.drop (j + 1)) = q1 at *
            generalize lcs (ls.drop (i + 1)) (bs.drop j) = q2 at *
            have hd : decide (q2 < q1) = true := by simpa using hlt
            clear hxy
            gi_wp2
            refine round_quiet (by kernel_rfl) (by kernel_rfl) (by kernel_rfl) ?_ ?_
            · rintro ⟨_, _, h⟩; exact h
            repeat (go_big_quiet_step (fail))
            refine wpQuiet_nil ?_
            intro _ hw'
            obtain ⟨nq, hw''⟩ := hw'
            subst hw''
            clear j0' j1' j2' j3' j4'
            gi_wp2
            have hset : Boxed ((wr.drewN nq).setCell ⟨W.heap.size + 1 + 1, 0, none⟩ (.int .i64 ((j : Int) + 1))) (W.heap.size + 1 + 1) 3 (.int .i64 ((j + 1 : Nat) : Int)) := by
              have := Boxed.set (W := wr.drewN nq) (.int .i64 ((j : Int) + 1)) hbj
              simpa using this
            refine ⟨⟨j + 1, by omega, hset, grow_trans (grow_trans hg (drew_new wr nq) (by simp)) (grownBy_setCell' _ _ _) (fun k e => .inr (by simpa using e)), by rw [HPJ.out, HR.out]⟩, ?_⟩
            rw [jOf_eq hset, jOf_eq hbj]
            omega
          · have HR : Hid (rest ls bs i j = rest ls bs (i + 1) j) := Lib.hid (by rw [rest_ne hil hjb hxy, if_pos (by omega)])
            have hbe : (ls[i] == bs[j]) = false := by simpa using hxy
            have hbn : (ls[i] != bs[j]) = true := by simpa using hxy
            have hq1 := lcs_len (ls.drop i) bs (j + 1)
            have hq2 := lcs_len (ls.drop (i + 1)) bs j
            unfold tab at hlt
            generalize ls[i] = x at *
            generalize bs[j] = y at *
            generalize lcs (ls.drop i) (bs.drop (j + 1)) = q1 at *
            generalize lcs (ls.drop (i + 1)) (bs.drop j) = q2 at *
            have hd : decide (q2 < q1) = false := by simpa using hlt
            have hjme : ((j : Int) == (m : Int)) = false := by simp; omega
            clear hxy
            gi_wp2
            refine round_quiet (by kernel_rfl) (by kernel_rfl) (by kernel_rfl) ?_ ?_
            · rintro ⟨_, _, h⟩; exact h
            repeat (go_big_quiet_step (fail))
            refine wpQuiet_nil ?_
            intro _ hw'
            obtain ⟨nq, hw''⟩ := hw'
            subst hw''
            clear j0' j1' j2' j3' j4'
            gi_wp2
            refine round_quiet (by kernel_rfl) (by kernel_rfl) (by kernel_rfl) ?_ ?_
            · rintro ⟨_, _, h⟩; exact h
            repeat (go_big_quiet_step (fail))
            refine wpQuiet_nil ?_
            intro _ hw'
            obtain ⟨nq2, hw''⟩ := hw'
            subst hw''
            gi_wp2
            obtain ⟨k1, k2, k3, k4⟩ := pset (z := W.heap.size) (n₁ := n₁) (Y := wr.drewN (nq + nq2)) hJ hiw (.inl rfl) (Nat.le_refl _) hlow (.int .i64 ((i : Int) + 1)) (hJ.new hJw (drew_new wr (nq + nq2)))
            have kk := kpK_t (kpK_t hkp (kpK_drewN wr (nq + nq2))) k1
            exact ⟨((hkf _).trans (keepsFrom_drewN _ wr (nq + nq2))).trans (k2 _), kk, p_close hbx hla' hlb' kk hra hrb hlo HIP.out k3 (Boxed.other (W := wr.drewN (nq + nq2)) hbj (by simp) _) hj k4 (by rw [HPJ.out, HR.out])⟩
      · obtain rfl : j = m := by omega
        gi_wp2
        refine round_quiet (by kernel_rfl) (by kernel_rfl) (by kernel_rfl) ?_ ?_
        · rintro ⟨_, _, h⟩; exact h
        repeat (go_big_quiet_step (fail))
        refine wpQuiet_nil ?_
        intro _ hw'
        obtain ⟨nq, hw''⟩ := hw'
        subst hw''
        gi_wp2
        refine ⟨(hkf _).trans (keepsFrom_drewN _ wr nq), rfl, .inl ?_⟩
        have hfin := HPJ.out
        rw [rest_end_right _ (by rw [HM.out]; exact Nat.le_refl _), List.append_nil] at hfin
        rw [hfin]
        exact hJ.new hJw (drew_new wr nq)
  case done =>
    rintro D X hD ⟨_, ⟨j, dn, ⟨_, hp⟩, _, hJd⟩, _⟩ hK
    rw [List.length_range, rest_end_left _ (by rw [HN.out]; exact Nat.le_refl _), List.append_nil] at hp
    gi_wp2
    refine ⟨by simp, .inl ⟨_, _, rfl, run_takeDeferred hK, ?_⟩⟩
    refine ⟨_, results_none rfl _ _ _, ⟨_, rfl⟩, .inl ?_⟩
    rw [hp]
    exact hJ.put (.deferred none) hJd (by rw [hsz5] at hD; omega) hK (.inl rfl)
  case stop =>
    rintro D cd pre post X hD _ ⟨rfl, hend⟩ hK
    gi_wp2
    refine ⟨by simp, .inl ⟨_, _, rfl, run_takeDeferred hK, ?_⟩⟩
    refine ⟨_, results_none rfl _ _ _, ⟨_, rfl⟩, ?_⟩
    rw [hsz5] at hD
    rcases hend with h | ⟨p, q, h1, h2⟩
    · exact .inl (hJ.put (.deferred none) h (by omega) hK (.inl rfl))
    · exact .inr ⟨p, q, h1, hJx.put (.deferred none) h2 (by omega) hK (.inl rfl)⟩

end Lc
end Go.Proofs.Ytkpgkbllcdpobaa
