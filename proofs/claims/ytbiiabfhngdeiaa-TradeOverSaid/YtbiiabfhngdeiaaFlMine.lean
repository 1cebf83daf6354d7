/-
  What package flow's own returns (walk): the same changes, in a row of one's own, with lines of their own.
-/
import Derived.Test.YtbiiabfhngdeiaaFlLeaf
import Derived.Test.YtbiiabfhngdeiaaGF
import Derived.Test.YtbiiabfhngdeiaaFlKeep
set_option maxRecDepth 100000
namespace Go.Proofs.Ytbiiabfhngdeiaa
open Go.RowKit
set_option linter.unusedVariables false
set_option linter.unusedSimpArgs false
namespace Fl
open Tx Df Sq Hk Tr Pr

/-- The cells of one change within a row's. -/
def CellsAt (W : World) (S : Nat → Prop) (xs : List Value) (k : Nat) (x : Ch) : Prop :=
  ∃ A n c B m d, xs[k * 6]? = some (.int .i64 x.k) ∧ xs[k * 6 + 1]? = some (strV x.nm) ∧ xs[k * 6 + 2]? = some (strV x.to) ∧ xs[k * 6 + 3]? = some (.int .i64 x.h.pos) ∧ xs[k * 6 + 4]? = some (.slice A n c) ∧ xs[k * 6 + 5]? = some (.slice B m d) ∧ PG W S A n c B m d x
section
variable {W : World} {S T : Nat → Prop} {xs : List Value} {k p : Nat} {x y : Ch}
theorem cellsAt_set (h : CellsAt W S xs p y) (hp : p ≠ k) (u u' : Value) : CellsAt W S ((xs.set (k * 6 + 4) u).set (k * 6 + 5) u') p y := by
  obtain ⟨A, n, c, B, m, d, h0, h1, h2, h3, h4, h5, h6⟩ := h
  have key : ∀ b, b < 6 → ((xs.set (k * 6 + 4) u).set (k * 6 + 5) u')[p * 6 + b]? = xs[p * 6 + b]? := fun b hb => by
    rw [List.getElem?_set_ne (by omega), List.getElem?_set_ne (by omega)]
  exact ⟨A, n, c, B, m, d, (key 0 (by decide)).trans h0, (key 1 (by decide)).trans h1, (key 2 (by decide)).trans h2, (key 3 (by decide)).trans h3, (key 4 (by decide)).trans h4, (key 5 (by decide)).trans h5, h6⟩
theorem cellsAt_new {A B : Option Addr} {n c m d : Nat} (h : CellsAt W T xs k x) (hl : k * 6 + 5 < xs.length) (hy : PG W S A n c B m d x) : CellsAt W S ((xs.set (k * 6 + 4) (.slice A n c)).set (k * 6 + 5) (.slice B m d)) k x := by
  obtain ⟨_, _, _, _, _, _, h0, h1, h2, h3, _, _, _⟩ := h
  refine ⟨A, n, c, B, m, d, ?_, ?_, ?_, ?_, ?_, ?_, hy⟩
  · rw [List.getElem?_set_ne (by omega), List.getElem?_set_ne (by omega)]; exact h0
  · rw [List.getElem?_set_ne (by omega), List.getElem?_set_ne (by omega)]; exact h1
  · rw [List.getElem?_set_ne (by omega), List.getElem?_set_ne (by omega)]; exact h2
  · rw [List.getElem?_set_ne (by omega), List.getElem?_set_ne (by omega)]; exact h3
  · rw [List.getElem?_set_ne (by omega), List.getElem?_set_self (by omega)]
  · rw [List.getElem?_set_self (by rw [List.length_set]; exact hl)]
end

/-- Blocks made behind w that are not the row. -/
def Fresh (w W : World) (row : Option Nat) : Nat → Prop := fun b => w.heap.size ≤ b ∧ b < W.heap.size ∧ some b ≠ row
theorem fresh_up {w W W' : World} {row : Option Nat} (hs : W.heap.size ≤ W'.heap.size) : ∀ b, Fresh w W row b → Fresh w W' row b := fun b h => ⟨h.1, Nat.lt_of_lt_of_le h.2.1 hs, h.2.2⟩
theorem fresh_out {w W : World} {row : Option Nat} : ∀ b, Fresh w W row b → Out W row b := fun b h => ⟨h.2.1, h.2.2⟩

/-- A row of changes, the first k of them with lines of their own. -/
def OwnK (w W : World) (v : Value) (l : List Ch) (k : Nat) : Prop := ∃ xs, W.ownsRow w.heap.size 51 6 v l.length xs ∧ PCells W (Fresh w W v.ownBlock) (l.take k) xs ∧ PCells W (Out W v.ownBlock) l xs
section
variable {w W W' : World} {v : Value} {l : List Ch} {k : Nat}
theorem ownK_start (h : OwnP W w.heap.size v l) : OwnK w W v l 0 := by
  obtain ⟨xs, h1, h2⟩ := h
  exact ⟨xs, h1, by rw [List.take_zero]; exact PCells.nil _ _ _, h2⟩
theorem OwnK.own (h : OwnK w W v l k) : OwnP W w.heap.size v l := by
  obtain ⟨xs, h1, h2, h3⟩ := h
  exact ⟨xs, h1, h3⟩
theorem OwnK.done (h : OwnK w W v l k) (hk : l.length ≤ k) : OwnS W (Fresh w W v.ownBlock) w.heap.size v l := by
  obtain ⟨xs, h1, h2, h3⟩ := h
  rw [List.take_of_length_le hk] at h2
  exact ⟨xs, h1, h2⟩
theorem OwnK.below (h : OwnK w W v l k) (hb : Below W.heap.size W W') : OwnK w W' v l k := by
  obtain ⟨xs, h1, h2, h3⟩ := h
  exact ⟨xs, own_gr h1 (below_gr_row hb), (h2.to (fun b _ hl => hb.block b hl)).mono (fresh_up hb.size), (h3.to (fun b _ hl => hb.block b hl)).mono (out_up hb.size)⟩
theorem OwnK.step {g n cap : Nat} {x : Ch} {D D' : Option Addr} {m d m' d' : Nat} (h : OwnK w W (.slice (some ⟨g, 0, none⟩) n cap) l k) (hx : l[k]? = some x) (hy : PG W (Fresh w W (some g)) D m d D' m' d' x) :
    OwnK w ((W.setCell ⟨g, k * 6 + 4, none⟩ (.slice D m d)).setCell ⟨g, k * 6 + 5, none⟩ (.slice D' m' d')) (.slice (some ⟨g, 0, none⟩) n cap) l (k + 1) := by
  obtain ⟨xs, hr, h2, h3⟩ := h
  have hn : l.length = n := by
    rcases hr.2 with ⟨h0, _⟩ | ⟨g', cap', cur, h0, _⟩
    · cases h0
    · injection h0 with _ h0; exact h0.symm
  subst hn
  have hk : k < l.length := (List.getElem?_eq_some_iff.1 hx).1
  have hxl := hr.1
  obtain ⟨r1, g1⟩ := hr.stored (k * 6 + 4) (.slice D m d)
  obtain ⟨r2, g2⟩ := r1.stored (k * 6 + 5) (.slice D' m' d')
  have al : ∀ (S : Nat → Prop), (∀ b, S b → b ≠ g) → Alike S W ((W.setCell ⟨g, k * 6 + 4, none⟩ (.slice D m d)).setCell ⟨g, k * 6 + 5, none⟩ (.slice D' m' d')) := fun S hS b hb hl =>
    (alike_set _ g _ _ b (hS b hb) (by simp; exact hl)).trans (alike_set W g _ _ b (hS b hb) hl)
  have sz : W.heap.size ≤ ((W.setCell ⟨g, k * 6 + 4, none⟩ (.slice D m d)).setCell ⟨g, k * 6 + 5, none⟩ (.slice D' m' d')).heap.size := by simp
  have c0 : CellsAt W (Out W (some g)) xs k x := h3 k x hx
  refine ⟨_, r2, ?_, ?_⟩
  · refine (PCells.to (W := W) (S := Fresh w W (some g)) ?_ (al _ fun b hb e => hb.2.2 (by rw [e]))).mono (fresh_up sz)
    intro p y hy'
    rw [List.getElem?_take] at hy'
    by_cases e : p = k
    · subst e
      rw [if_pos (by omega)] at hy'
      rw [hx] at hy'
      injection hy' with hy'
      subst hy'
      exact cellsAt_new c0 (by omega) hy
    · have hp : p < k := by
        by_cases hp : p < k + 1
        · omega
        · rw [if_neg hp] at hy'; cases hy'
      rw [if_pos (by omega)] at hy'
      exact cellsAt_set (h2 p y (by rw [List.getElem?_take, if_pos hp]; exact hy')) e _ _
  · refine (PCells.to (W := W) (S := Out W (some g)) ?_ (al _ fun b hb e => hb.2 (by rw [e]))).mono (out_up sz)
    intro p y hy'
    by_cases e : p = k
    · subst e
      rw [hx] at hy'
      injection hy' with hy'
      subst hy'
      exact cellsAt_new c0 (by omega) (hy.mono fresh_out)
    · exact cellsAt_set (h3 p y hy') e _ _
end

/-- How own ends. -/
def MineEnd (w : World) (n : Nat) (l : List Ch) (e : Ending) (w' : World) : Prop :=
  ∃ A c, e = .returned (.slice A n c) ∧ n ≤ c ∧ OwnS w' (Fresh w w' (Value.slice A n c).ownBlock) w.heap.size (.slice A n c) l ∧ Below w.heap.size w w'

theorem two_keep {W : World} {b g i j : Nat} {t : TypeId} {cs : Array Value} (h : Blk W b t cs) (hne : b ≠ g) (u u' : Value) : Blk ((W.setCell ⟨g, i, none⟩ u).setCell ⟨g, j, none⟩ u') b t cs := (h.set_ne hne i u).set_ne hne j u'

set_option maxRecDepth 100000 in
set_option maxHeartbeats 4000000 in
theorem ownL (A : Option Addr) (n c : Nat) (l : List Ch) (w : World) (hn : l.length = n) (hle : n ≤ 1000) (hl : Lt l) (hR : RdP w (· < w.heap.size) A l) :
    Calls Try.prog 39 #[.slice A n c] w (MineEnd w n l) := by
  have HR := Lib.hid hR; have HN := Lib.hid hn; have HL := Lib.hid hl
  clear hR hn hl
  go_enter Try.func39, Try.ntmps39
  go_wp2_with (at_builtin; refine wpList_ownPL rfl (.const (.slice none 0 0)) (.tmp 6) rfl w.heap.size w.heap.size n c (.slice none 0 0) A [] l rfl rfl (ownP_nil _ _) HR.out (Nat.le_refl _) HN.out (by simp; omega) (Nat.le_refl _) ?_; intro v w1 ho hg; have HO := Lib.hid (show OwnP w1 w.heap.size v l from ho); have HB := Lib.hid ((Below.refl w.heap.size w).grown hg (Nat.le_refl _) (fun k e => by cases e)); clear ho hg; obtain ⟨A1, c1, hv1, hc1⟩ : ∃ A1 c1, v = .slice A1 n c1 ∧ n ≤ c1 := (rdP_own HO.out).elim fun A1 h => h.elim fun c1 h => ⟨A1, c1, by rw [← HN.out]; exact h.1, by rw [← HN.out]; exact h.2.1⟩; subst hv1)
  clear HR
  go_loopw [10] (fun i wr => ∃ k : Nat, k ≤ n ∧ i = .int .i64 (k : Int) ∧ OwnK w wr (.slice A1 n c1) l k ∧ Below w.heap.size w wr) (fun i _ => n - (intOf i).toNat)
  case atStart => exact ⟨0, Nat.zero_le _, rfl, ownK_start HO.out, HB.out⟩
  case round =>
    clear HO HB
    obtain ⟨k, hk, rfl, ho, hb⟩ := hrel
    have HB := Lib.hid hb; have HO := Lib.hid ho
    clear hb ho
    by_cases hlt : k < n
    · obtain ⟨g, cap, e, hg1, hg2⟩ : ∃ g cap, Value.slice A1 n c1 = .slice (some ⟨g, 0, none⟩) n cap ∧ w.heap.size ≤ g ∧ g < wr.heap.size := by
        obtain ⟨xs, hr, _⟩ := HO.out
        rcases hr.2 with ⟨_, h1⟩ | ⟨g, cap, cur, e, hbg, hgb, hc, _⟩
        · have := HN.out; omega
        · injection e with e1 e2 e3
          subst e1 e3
          exact ⟨g, c1, rfl, hbg, (Array.getElem?_eq_some_iff.1 hgb).1⟩
      injection e with e1 e2 e3
      subst e1 e3
      clear e2
      have hki : (k : Int) < (n : Int) := by omega
      obtain ⟨x, hx⟩ : ∃ x, l[k]? = some x := ⟨_, List.getElem?_eq_getElem (by rw [HN.out]; exact hlt)⟩
      obtain ⟨B, i, j, D, m, d, c0, c1', c2, c3, c4, c5, hf, hp⟩ := OwnS.elem HO.out.own HN.out hx
      have HX := Lib.hid hx
      have HLX := Lib.hid (lt_len hp (HL.out x (List.mem_of_getElem? hx)))
      have HBX := Lib.hid (Blk.new wr 51 #[.int .i64 x.k, strV x.nm, strV x.to, .int .i64 x.h.pos, .slice B i j, .slice D m d])
      have HP := Lib.hid ((hp.mono fun b h => h.1).pv)
      clear hx hf hp
      have hba : Below wr.heap.size wr (wr.alloc (.cells #[.int .i64 x.k, strV x.nm, strV x.to, .int .i64 x.h.pos, .slice B i j, .slice D m d] 51)) := (Below.refl _ _).alloc (Nat.le_refl _) _
      have HPW := Lib.hid (HP.out.below hba); have HOW := Lib.hid (HO.out.below hba); have HBW := Lib.hid (HB.out.trans (hba.mono HB.out.size))
      have hsz : (wr.alloc (.cells #[.int .i64 x.k, strV x.nm, strV x.to, .int .i64 x.h.pos, .slice B i j, .slice D m d] 51)).heap.size = wr.heap.size + 1 := by simp
      have HSZ := Lib.hid hsz
      clear hba hsz HP HO HB
      go_upto_region 5 with fail
      clear c0 c1' c2 c3 c4 c5
      generalize (wr.alloc (.cells #[.int .i64 x.k, strV x.nm, strV x.to, .int .i64 x.h.pos, .slice B i j, .slice D m d] 51)) = W at *
      obtain ⟨z, hz⟩ : ∃ z, wr.heap.size = z := ⟨_, rfl⟩
      rw [hz] at HBX HPW HSZ hg2 ⊢
      clear hz
      have hlx := HLX.out
      have PX : Hid (∀ X, Below W.heap.size W X → Calls Try.prog 53 #[.slice B i j] X (fun e u => ∃ P p, e = .returned (.slice P i p) ∧ i ≤ p ∧ RdS u u.heap.size P x.h.old ∧ Hi X.heap.size P ∧ X.grownBy u none)) := Lib.hid (fun X hb => ownLines B i j z x.h.old X HPW.out.h.l (by omega) (by have := HSZ.out; have := hb.size; omega) (Rd.below HPW.out.h.r (hb.mono (by have := HSZ.out; omega))))
      have PY : Hid (∀ X, Below W.heap.size W X → Calls Try.prog 53 #[.slice D m d] X (fun e u => ∃ P p, e = .returned (.slice P m p) ∧ m ≤ p ∧ RdS u u.heap.size P x.h.new ∧ Hi X.heap.size P ∧ X.grownBy u none)) := Lib.hid (fun X hb => ownLines D m d z x.h.new X HPW.out.h.l' (by omega) (by have := HSZ.out; have := hb.size; omega) (Rd.below HPW.out.h.r' (hb.mono (by have := HSZ.out; omega))))
      have HGZ := Lib.hid (show z ≠ g by omega)
      have HSB : Hid (∀ X, Blk X z 51 #[.int .i64 x.k, strV x.nm, strV x.to, .int .i64 x.h.pos, .slice B i j, .slice D m d] → X.cell? ⟨z, 4, none⟩ = some (.slice B i j) ∧ X.cell? ⟨z, 5, none⟩ = some (.slice D m d)) := Lib.hid (fun X b => ⟨b.cell 4 rfl, b.cell 5 rfl⟩)
      have HC : Hid (∀ X, Below W.heap.size W X → X.cell? ⟨z, 4, none⟩ = some (.slice B i j) ∧ X.cell? ⟨z, 5, none⟩ = some (.slice D m d)) := Lib.hid (fun X hb => HSB.out X (HBX.out.below hb HBX.out.lt))
      have HKD := Lib.hid (HC.out W.drew (below_drewN (Below.refl _ _) 1))
      have hzl := HBX.out.lt
      obtain ⟨z4, z5⟩ := HC.out W (Below.refl _ _)
      go_region_held3 (fun X => X.cell? ⟨z, 4, none⟩ = some (.slice B i j) ∧ X.cell? ⟨z, 5, none⟩ = some (.slice D m d))
        (first | (with_reducible exact HKD.out) | (with_reducible exact hS5) | (with_reducible exact hS6) | (with_reducible exact HK2.out _ _) | (with_reducible exact HK3.out _ _ _ _))
        (first
          | (go_at_call 53; (with_reducible refine (PX.out W.drew (below_drewN (Below.refl _ _) 1)).mono ?_); rintro e w5 ⟨P5, p5, rfl, hk5, hr5, hh5, hg5⟩; have hbu := (below_drewN (Below.refl W.heap.size W) 1).trans (below_gr hg5); have hS5 := HC.out w5 hbu; have HU5 := Lib.hid hbu; have HR5 := Lib.hid hr5; have HH5 := Lib.hid hh5; have HK5 := Lib.hid hk5; clear hg5 hbu hr5 hh5 hk5)
          | (go_at_call 53; (with_reducible refine (PY.out w5 HU5.out).mono ?_); rintro e w6 ⟨P6, p6, rfl, hk6, hr6, hh6, hg6⟩; have hb6 := below_gr hg6; have hbu := HU5.out.trans (hb6.mono HU5.out.size); have hS6 := HC.out w6 hbu; have HU6 := Lib.hid hbu; have HB6 := Lib.hid hb6; have HR6 := Lib.hid hr6; have HH6 := Lib.hid hh6; have HK6 := Lib.hid hk6;
              have bz := HBX.out.below hbu HBX.out.lt;
              have HK2 := Lib.hid (fun (a : Nat) (v : Value) => HSB.out _ (bz.set_ne HGZ.out a v));
              have HK3 := Lib.hid (fun (a : Nat) (v : Value) (a' : Nat) (v' : Value) => HSB.out _ ((bz.set_ne HGZ.out a v).set_ne HGZ.out a' v'));
              have ho6 := HOW.out.below hbu; have HO6 := Lib.hid ho6;
              obtain ⟨_, _, _, _, _, _, q0, q1, q2, q3, q4, q5, qf, _⟩ := OwnS.elem ho6.own HN.out HX.out;
              have f4 := qf (k * 6 + 4); have f5 := qf (k * 6 + 5);
              clear q0 q1 q2 q3 qf ho6 bz hb6 hbu hr6 hh6 hk6 hg6))
      have HGL := Lib.hid (And.intro hg1 hg2)
      clear z4 z5 q4 q5 f4 f5 hS5 hS6 hzl HK2 HK3 HKD HC HSB PX PY
      go_wp2_with fail
      go_roundw
      case rel =>
        have v := HPW.out
        have hsz := HSZ.out
        have hgl := HGL.out
        have e5 : w5.heap.size ≤ w6.heap.size := HB6.out.size
        have u5 : W.heap.size ≤ w5.heap.size := HU5.out.size
        have r5 : RdG w6 (Fresh w w6 (some g)) P5 (x.h.old.map strV) := (rdG_hi (Rd.below HR5.out HB6.out) HH5.out).mono fun b hb => by
          have h1 : W.heap.size ≤ b := hb.1
          have h2 : b < w5.heap.size := hb.2
          exact ⟨by omega, by omega, fun e => by injection e with e; omega⟩
        have r6 : RdG w6 (Fresh w w6 (some g)) P6 (x.h.new.map strV) := (rdG_hi HR6.out HH6.out).mono fun b hb => by
          have h1 : w5.heap.size ≤ b := hb.1
          have h2 : b < w6.heap.size := hb.2
          exact ⟨by omega, by omega, fun e => by injection e with e; omega⟩
        refine ⟨k + 1, by omega, by go_num, OwnK.step HO6.out HX.out ⟨v.h.l, v.h.l', HK5.out, HK6.out, v.h.m, v.h.m', r5, r6, v.h.p, v.k, v.nm, v.to, v.s, v.s'⟩, ?_⟩
        exact ((HBW.out.trans (HU6.out.mono HBW.out.size)).setCell (p := ⟨g, k * 6 + 4, none⟩) hgl.1 _).setCell (p := ⟨g, k * 6 + 5, none⟩) hgl.1 _
      case measure => simp [intOf]; omega
    · have HE : Hid (l.length ≤ k) := Lib.hid (by rw [HN.out]; omega)
      go_wp2
      go_ret
      exact ⟨A1, c1, rfl, hc1, HO.out.done HE.out, HB.out⟩

end Fl
end Go.Proofs.Ytbiiabfhngdeiaa
